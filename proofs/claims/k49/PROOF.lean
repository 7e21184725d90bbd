import PyProof.Rows.All
import Wide.All
import OpenK.AllK
import Wide.FinOn
import HandS.ForMost
import HandS.TupAny
import HandS.Deep
import HandS.Conv
import KE.GoesMore
import HandS.SortOrd
import HandS.SortRule
import KE.KSortTup
import HandS.IsInst
import HandS.Style
import HandS.Zip
import HandS.RaiseMore
import HandS.Text
import HandS.TupSets
import HandS.SetFor
import HandS.TupLe
import HandS.TupMul
import PyProof.CallFns
import HandS.HeadHook3
import HandS.HeadEnd
import HandS.Head0
import HandS.Head1
import HandS.Head2
import HandS.Wide
import KE.GoesComp2
import PySem.Challenge.RW_leftstanding_k49_whole_mended_book_by_bo
set_option Elab.async false
set_option linter.all false
set_option maxRecDepth 100000
set_option maxHeartbeats 8000000
/-! Data of a run: values as trees, what changes as numbered cells; the heap of the layer bears them. -/
namespace DD
open PySem L2

/-- a value: flat ones, tuples (and lists that nobody changes) as trees, what can change by its number -/
inductive D where
  | non | bl (b : Bool) | int (i : Int) | str (x : Str) | tup (ds : List D) | rol (ds : List D) | rod (ks : List Key) (ds : List D) | loc (n : Nat)
  deriving Inhabited
inductive Cell where
  | lst (ds : List D)
  | dic (kvs : List (Key × D))
  deriving Inhabited
abbrev Sto := List Cell
abbrev Env := List (Option D)

/-- a dict that stays: locked -/
def RoD (H : Hp) (a : Addr) (kvs : List (Key × V)) : Prop := ∃ o, H a = some (.frz o (.dK kvs))
/-- a list that stays: locked, or of the written part -/
def RoL (K : PySem.W.Frag) (H : Hp) (a : Addr) (xs : List V) : Prop :=
  (∃ o, H a = some (.frz o (.lst xs))) ∨
    ∃ (its : Array Value) (n : Nat), K.lookup a = some { cls := .type "list", data := .seq its n } ∧ its.size ≤ sizeLine ∧ Vals xs its.toList
theorem RoL.sq {K : PySem.W.Frag} {H : Hp} {a : Addr} {xs : List V} (h : RoL K H a xs) : SqL K H a xs := by
  rcases h with h | ⟨its, n, hk, hs, r⟩
  · exact .inl (.inr h)
  · exact .inr ⟨_, its, n, hk, rfl, rfl, rfl, hs, r⟩

mutual
inductive Rep (K : PySem.W.Frag) (H : Hp) (m : List Addr) : D → V → Prop
  | non : Rep K H m .non .non
  | bl (b : Bool) : Rep K H m (.bl b) (.bl b)
  | int (i : Int) : Rep K H m (.int i) (.int i)
  | str (x : Str) : Rep K H m (.str x) (.str x)
  | tup {a : Addr} {vs : List V} {ds : List D} : SqT K H a vs → RepL K H m ds vs → Rep K H m (.tup ds) (.ref a)
  | rol {a : Addr} {vs : List V} {ds : List D} : RoL K H a vs → RepL K H m ds vs → Rep K H m (.rol ds) (.ref a)
  | rod {a : Addr} {kvs : List (Key × V)} {ks : List Key} {ds : List D} : RoD H a kvs → kvs.map Prod.fst = ks → RepL K H m ds (kvs.map Prod.snd) → Rep K H m (.rod ks ds) (.ref a)
  | loc {n : Nat} {a : Addr} : m[n]? = some a → Rep K H m (.loc n) (.ref a)
inductive RepL (K : PySem.W.Frag) (H : Hp) (m : List Addr) : List D → List V → Prop
  | nil : RepL K H m [] []
  | cons {d : D} {v : V} {ds : List D} {vs : List V} : Rep K H m d v → RepL K H m ds vs → RepL K H m (d :: ds) (v :: vs)
end

def CellOk (K : PySem.W.Frag) (H : Hp) (m : List Addr) (a : Addr) : Cell → Prop
  | .lst ds => ∃ vs, H a = some (.lst vs) ∧ RepL K H m ds vs
  | .dic kvs => ∃ ks, H a = some (.dK ks) ∧ Paired (fun (p : Key × D) (q : Key × V) => p.1 = q.1 ∧ Rep K H m p.2 q.2) kvs ks
structure StR (K : PySem.W.Frag) (H : Hp) (m : List Addr) (S : Sto) : Prop where
  len : m.length = S.length
  nd : m.Nodup
  ok : ∀ (n : Nat) (c : Cell) (a : Addr), S[n]? = some c → m[n]? = some a → CellOk K H m a c

structure Ext (H : Hp) (m : List Addr) (H' : Hp) (m' : List Addr) : Prop where
  pre : ∀ (n : Nat) (a : Addr), m[n]? = some a → m'[n]? = some a
  keep : ∀ (a : Addr) (o : HO), H a = some o → a ∉ m → H' a = some o
  new : ∀ a : Addr, a ∈ m' → a ∉ m → H a = none
theorem Ext.refl (H : Hp) (m : List Addr) : Ext H m H m := ⟨fun _ _ h => h, fun _ _ h _ => h, fun _ h h' => absurd h h'⟩
theorem Ext.mem {H H' : Hp} {m m' : List Addr} (e : Ext H m H' m') {a : Addr} (h : a ∈ m) : a ∈ m' := by
  obtain ⟨n, hn⟩ := List.mem_iff_getElem?.mp h
  exact List.mem_iff_getElem?.mpr ⟨n, e.pre n a hn⟩
theorem Ext.trans {H H1 H2 : Hp} {m m1 m2 : List Addr} (a : Ext H m H1 m1) (b : Ext H1 m1 H2 m2) : Ext H m H2 m2 := by
  refine ⟨fun n x h => b.pre n x (a.pre n x h), fun x o h hn => b.keep x o (a.keep x o h hn) fun h1 => ?_, fun x h hn => ?_⟩
  · rw [a.new x h1 hn] at h; cases h
  · by_cases h1 : x ∈ m1
    · exact a.new x h1 hn
    · cases q : H x with
      | none => rfl
      | some o =>
        have := b.new x h h1
        rw [a.keep x o q hn] at this; cases this

section
variable {K : PySem.W.Frag} {H H' : Hp} {m m' : List Addr} {S S' : Sto}
theorem CellOk.at {c : Cell} {a : Addr} (h : CellOk K H m a c) : ∃ o, H a = some o ∧ (∀ xs, o ≠ .tup xs) ∧ ∀ ob u, o ≠ .frz ob u := by
  cases c with
  | lst ds => obtain ⟨vs, e, _⟩ := h; exact ⟨_, e, (fun _ q => by cases q), (fun _ _ q => by cases q)⟩
  | dic kvs => obtain ⟨ks, e, _⟩ := h; exact ⟨_, e, (fun _ q => by cases q), (fun _ _ q => by cases q)⟩
theorem StR.cell (s : StR K H m S) {n : Nat} {a : Addr} (h : m[n]? = some a) : ∃ c, S[n]? = some c ∧ CellOk K H m a c := by
  have hn : n < m.length := (List.getElem?_eq_some_iff.mp h).1
  have hs : n < S.length := by rw [← s.len]; exact hn
  exact ⟨S[n], List.getElem?_eq_getElem hs, s.ok n _ a (List.getElem?_eq_getElem hs) h⟩
theorem StR.addr (s : StR K H m S) {n : Nat} {c : Cell} (h : S[n]? = some c) : ∃ a, m[n]? = some a ∧ CellOk K H m a c := by
  have hn : n < S.length := (List.getElem?_eq_some_iff.mp h).1
  have hs : n < m.length := by rw [s.len]; exact hn
  exact ⟨m[n], List.getElem?_eq_getElem hs, s.ok n c _ h (List.getElem?_eq_getElem hs)⟩
theorem StR.mem (s : StR K H m S) {a : Addr} (h : a ∈ m) : ∃ o, H a = some o ∧ (∀ xs, o ≠ .tup xs) ∧ ∀ ob u, o ≠ .frz ob u := by
  obtain ⟨n, hn⟩ := List.mem_iff_getElem?.mp h
  obtain ⟨c, _, q⟩ := s.cell hn
  exact q.at
theorem StR.out (s : StR K H m S) {a : Addr} (h : H a = none) : a ∉ m := fun q => by
  obtain ⟨o, e, _⟩ := s.mem q
  rw [h] at e; cases e
theorem Ext.sqT (s : StR K H m S) (e : Ext H m H' m') {a : Addr} {xs : List V} (h : SqT K H a xs) : SqT K H' a xs := by
  rcases h with (h | ⟨o, h⟩) | h
  · refine .inl (.inl (e.keep a _ h fun q => ?_))
    obtain ⟨o, e1, e2, _⟩ := s.mem q
    rw [h] at e1; cases e1; exact e2 _ rfl
  · refine .inl (.inr ⟨o, e.keep a _ h fun q => ?_⟩)
    obtain ⟨o', e1, _, e2⟩ := s.mem q
    rw [h] at e1; cases e1; exact e2 _ _ rfl
  · exact .inr h
theorem Ext.roL (s : StR K H m S) (e : Ext H m H' m') {a : Addr} {xs : List V} (h : RoL K H a xs) : RoL K H' a xs := by
  rcases h with ⟨o, h⟩ | h
  · refine .inl ⟨o, e.keep a _ h fun q => ?_⟩
    obtain ⟨o', e1, _, e2⟩ := s.mem q
    rw [h] at e1; cases e1; exact e2 _ _ rfl
  · exact .inr h
theorem Ext.roD (s : StR K H m S) (e : Ext H m H' m') {a : Addr} {xs : List (Key × V)} (h : RoD H a xs) : RoD H' a xs := by
  obtain ⟨o, h⟩ := h
  refine ⟨o, e.keep a _ h fun q => ?_⟩
  obtain ⟨o', e1, _, e2⟩ := s.mem q
  rw [h] at e1; cases e1; exact e2 _ _ rfl
mutual
theorem Rep.go (hT : ∀ (a : Addr) (xs : List V), SqT K H a xs → SqT K H' a xs) (hL : ∀ (a : Addr) (xs : List V), RoL K H a xs → RoL K H' a xs) (hD : ∀ (a : Addr) (xs : List (Key × V)), RoD H a xs → RoD H' a xs) (hm : ∀ (n : Nat) (a : Addr), m[n]? = some a → m'[n]? = some a) : ∀ {d : D} {v : V}, Rep K H m d v → Rep K H' m' d v
  | _, _, .non => .non
  | _, _, .bl b => .bl b
  | _, _, .int i => .int i
  | _, _, .str x => .str x
  | _, _, .tup h r => .tup (hT _ _ h) (RepL.go hT hL hD hm r)
  | _, _, .rol h r => .rol (hL _ _ h) (RepL.go hT hL hD hm r)
  | _, _, .rod h e r => .rod (hD _ _ h) e (RepL.go hT hL hD hm r)
  | _, _, .loc h => .loc (hm _ _ h)
theorem RepL.go (hT : ∀ (a : Addr) (xs : List V), SqT K H a xs → SqT K H' a xs) (hL : ∀ (a : Addr) (xs : List V), RoL K H a xs → RoL K H' a xs) (hD : ∀ (a : Addr) (xs : List (Key × V)), RoD H a xs → RoD H' a xs) (hm : ∀ (n : Nat) (a : Addr), m[n]? = some a → m'[n]? = some a) : ∀ {ds : List D} {vs : List V}, RepL K H m ds vs → RepL K H' m' ds vs
  | _, _, .nil => .nil
  | _, _, .cons h r => .cons (Rep.go hT hL hD hm h) (RepL.go hT hL hD hm r)
end
theorem Rep.mono (s : StR K H m S) (e : Ext H m H' m') {d : D} {v : V} (h : Rep K H m d v) : Rep K H' m' d v := Rep.go (fun _ _ => e.sqT s) (fun _ _ => e.roL s) (fun _ _ => e.roD s) e.pre h
theorem RepL.mono (s : StR K H m S) (e : Ext H m H' m') {ds : List D} {vs : List V} (h : RepL K H m ds vs) : RepL K H' m' ds vs := RepL.go (fun _ _ => e.sqT s) (fun _ _ => e.roL s) (fun _ _ => e.roD s) e.pre h
/-- more cells -/
theorem Rep.grow (hm : ∀ (n : Nat) (a : Addr), m[n]? = some a → m'[n]? = some a) {d : D} {v : V} (h : Rep K H m d v) : Rep K H m' d v := Rep.go (fun _ _ z => z) (fun _ _ z => z) (fun _ _ z => z) hm h
theorem RepL.grow (hm : ∀ (n : Nat) (a : Addr), m[n]? = some a → m'[n]? = some a) {ds : List D} {vs : List V} (h : RepL K H m ds vs) : RepL K H m' ds vs := RepL.go (fun _ _ z => z) (fun _ _ z => z) (fun _ _ z => z) hm h
/-- a list that is no cell changes -/
def Flex (o : HO) : Prop := (∀ xs, o ≠ .tup xs) ∧ ∀ ob u, o ≠ .frz ob u
theorem flex_lst (xs : List V) : Flex (.lst xs) := ⟨fun _ q => (by cases q), fun _ _ q => (by cases q)⟩
theorem flex_dK (xs : List (Key × V)) : Flex (.dK xs) := ⟨fun _ q => (by cases q), fun _ _ q => (by cases q)⟩
theorem sqT_off {b : Addr} {o0 : HO} {o : HO} (hb : H b = some o0) (fl : Flex o0) {a : Addr} {xs : List V} (h : SqT K H a xs) : SqT K (upd H b o) a xs := by
  rcases h with (h | ⟨o', h⟩) | h
  · refine .inl (.inl ?_)
    rw [upd_ne (ne_of h hb (Ne.symm (fl.1 _)))]; exact h
  · refine .inl (.inr ⟨o', ?_⟩)
    rw [upd_ne (ne_of h hb (Ne.symm (fl.2 _ _)))]; exact h
  · exact .inr h
theorem roL_off {b : Addr} {o0 : HO} {o : HO} (hb : H b = some o0) (fl : Flex o0) {a : Addr} {xs : List V} (h : RoL K H a xs) : RoL K (upd H b o) a xs := by
  rcases h with ⟨o', h⟩ | h
  · refine .inl ⟨o', ?_⟩
    rw [upd_ne (ne_of h hb (Ne.symm (fl.2 _ _)))]; exact h
  · exact .inr h
theorem roD_off {b : Addr} {o0 : HO} {o : HO} (hb : H b = some o0) (fl : Flex o0) {a : Addr} {xs : List (Key × V)} (h : RoD H a xs) : RoD (upd H b o) a xs := by
  obtain ⟨o', h⟩ := h
  refine ⟨o', ?_⟩
  rw [upd_ne (ne_of h hb (Ne.symm (fl.2 _ _)))]; exact h
theorem Rep.off {b : Addr} {o0 : HO} {o : HO} (hb : H b = some o0) (fl : Flex o0) {d : D} {v : V} (h : Rep K H m d v) : Rep K (upd H b o) m d v := Rep.go (fun _ _ => sqT_off hb fl) (fun _ _ => roL_off hb fl) (fun _ _ => roD_off hb fl) (fun _ _ z => z) h
theorem RepL.off {b : Addr} {o0 : HO} {o : HO} (hb : H b = some o0) (fl : Flex o0) {ds : List D} {vs : List V} (h : RepL K H m ds vs) : RepL K (upd H b o) m ds vs := RepL.go (fun _ _ => sqT_off hb fl) (fun _ _ => roL_off hb fl) (fun _ _ => roD_off hb fl) (fun _ _ z => z) h
theorem RepL.length : ∀ {ds : List D} {vs : List V}, RepL K H m ds vs → ds.length = vs.length
  | _, _, .nil => rfl
  | _, _, .cons _ r => by rw [List.length_cons, List.length_cons, RepL.length r]
theorem RepL.get : ∀ {ds : List D} {vs : List V} {i : Nat} {d : D}, RepL K H m ds vs → ds[i]? = some d → ∃ v, vs[i]? = some v ∧ Rep K H m d v
  | _, _, _, _, .nil, h => by simp at h
  | _, _, 0, _, .cons r _, h => by simp at h; subst h; exact ⟨_, rfl, r⟩
  | _, _, i + 1, _, .cons _ t, h => by
    obtain ⟨v, h1, h2⟩ := RepL.get (i := i) t (by simpa using h)
    exact ⟨v, by simpa using h1, h2⟩
theorem RepL.app : ∀ {ds es : List D} {vs us : List V}, RepL K H m ds vs → RepL K H m es us → RepL K H m (ds ++ es) (vs ++ us)
  | _, _, _, _, .nil, s => s
  | _, _, _, _, .cons r t, s => .cons r (RepL.app t s)
theorem RepL.take : ∀ {ds : List D} {vs : List V} (n : Nat), RepL K H m ds vs → RepL K H m (ds.take n) (vs.take n)
  | _, _, 0, _ => .nil
  | _, _, _ + 1, .nil => .nil
  | _, _, n + 1, .cons r t => .cons r (RepL.take n t)
theorem RepL.drop : ∀ {ds : List D} {vs : List V} (n : Nat), RepL K H m ds vs → RepL K H m (ds.drop n) (vs.drop n)
  | _, _, 0, r => r
  | _, _, _ + 1, .nil => .nil
  | _, _, n + 1, .cons _ t => RepL.drop n t
theorem RepL.reverse : ∀ {ds : List D} {vs : List V}, RepL K H m ds vs → RepL K H m ds.reverse vs.reverse
  | _, _, .nil => .nil
  | _, _, .cons r t => by
    rw [List.reverse_cons, List.reverse_cons]
    exact (RepL.reverse t).app (.cons r .nil)
theorem RepL.set : ∀ {ds : List D} {vs : List V} {d : D} {v : V} (n : Nat), RepL K H m ds vs → Rep K H m d v → RepL K H m (ds.set n d) (vs.set n v)
  | _, _, _, _, _, .nil, _ => .nil
  | _, _, _, _, 0, .cons _ t, r => .cons r t
  | _, _, _, _, n + 1, .cons q t, r => .cons q (RepL.set n t r)
theorem RepL.ints : ∀ (ns : List Int), RepL K H m (ns.map D.int) (ns.map V.int)
  | [] => .nil
  | n :: r => .cons (.int n) (RepL.ints r)

theorem CellOk.mono (s : StR K H m S) (e : Ext H m H' m') {a : Addr} {c : Cell} (h : CellOk K H m a c) (ha : H' a = H a) : CellOk K H' m' a c := by
  cases c with
  | lst ds => obtain ⟨vs, e1, r⟩ := h; exact ⟨vs, ha.trans e1, r.mono s e⟩
  | dic kvs => obtain ⟨ks, e1, r⟩ := h; exact ⟨ks, ha.trans e1, Paired.mapP r fun _ _ z => ⟨z.1, z.2.mono s e⟩⟩

/-! ### a new object that is no cell -/
theorem Ext.new1 {p : Addr} {o : HO} (h : H p = none) : Ext H m (upd H p o) m :=
  ⟨fun _ _ e => e, fun a o' e _ => by rw [upd_ne (ne_of_none e h)]; exact e, fun _ a b => absurd a b⟩
theorem StR.new1 (s : StR K H m S) {p : Addr} {o : HO} (h : H p = none) : StR K (upd H p o) m S :=
  ⟨s.len, s.nd, fun n c a e1 e2 => (s.ok n c a e1 e2).mono s (Ext.new1 h) (upd_ne fun q => by
    obtain ⟨o', e3, _⟩ := (s.ok n c a e1 e2).at
    rw [q, h] at e3; cases e3)⟩
/-! ### a new cell -/
theorem Ext.newC (s : StR K H m S) {p : Addr} {o : HO} (h : H p = none) : Ext H m (upd H p o) (m ++ [p]) :=
  ⟨fun n a e => by rw [List.getElem?_append_left (List.getElem?_eq_some_iff.mp e).1]; exact e, fun a o' e _ => by rw [upd_ne (ne_of_none e h)]; exact e,
    fun a h1 h2 => by
      rcases List.mem_append.mp h1 with q | q
      · exact absurd q h2
      · rw [List.mem_singleton.mp q]; exact h⟩
theorem StR.newC (s : StR K H m S) {p : Addr} {o : HO} {c : Cell} (h : H p = none) (hc : CellOk K (upd H p o) (m ++ [p]) p c) : StR K (upd H p o) (m ++ [p]) (S ++ [c]) := by
  have hp : p ∉ m := s.out h
  refine ⟨by rw [List.length_append, List.length_append, s.len]; rfl, ?_, fun n c' a e1 e2 => ?_⟩
  · exact List.nodup_append.mpr ⟨s.nd, by simp, fun x hx y hy q => by
      rw [List.mem_singleton.mp hy] at q; rw [q] at hx; exact hp hx⟩
  · by_cases hn : n < m.length
    · rw [List.getElem?_append_left hn] at e2
      rw [List.getElem?_append_left (by rw [← s.len]; exact hn)] at e1
      refine (s.ok n c' a e1 e2).mono s (Ext.newC s h) (upd_ne fun q => ?_)
      rw [q] at e2
      exact hp (List.mem_iff_getElem?.mpr ⟨n, e2⟩)
    · have hm : n = m.length := by
        have := (List.getElem?_eq_some_iff.mp e2).1
        rw [List.length_append, List.length_singleton] at this
        omega
      have hs : n = S.length := hm.trans s.len
      rw [hm, List.getElem?_concat_length] at e2
      rw [hs, List.getElem?_concat_length] at e1
      cases e1; cases e2; exact hc
/-! ### a cell changed -/
theorem Ext.put (s : StR K H m S) {n : Nat} {a : Addr} {o : HO} (h : m[n]? = some a) : Ext H m (upd H a o) m :=
  ⟨fun _ _ e => e, fun b o' e hb => by
    rw [upd_ne fun q => ?_]; exact e
    rw [q] at hb; exact hb (List.mem_iff_getElem?.mpr ⟨n, h⟩), fun _ x y => absurd x y⟩
theorem StR.put (s : StR K H m S) {n : Nat} {a : Addr} {o : HO} {c : Cell} (h : m[n]? = some a) (hc : CellOk K (upd H a o) m a c) : StR K (upd H a o) m (S.set n c) := by
  refine ⟨by rw [List.length_set]; exact s.len, s.nd, fun k c' b e1 e2 => ?_⟩
  by_cases hk : k = n
  · subst hk
    rw [h] at e2; cases e2
    have hl : k < S.length := by rw [← s.len]; exact (List.getElem?_eq_some_iff.mp h).1
    rw [List.getElem?_set_self hl] at e1; cases e1
    exact hc
  · rw [List.getElem?_set_ne (Ne.symm hk)] at e1
    refine (s.ok k c' b e1 e2).mono s (Ext.put s h) (upd_ne fun q => ?_)
    rw [q] at e2
    exact hk (nd_ix s.nd e2 h)
end

section
variable {K : PySem.W.Frag} {H H' : Hp} {m m' : List Addr} {S S' : Sto}
theorem StR.off (s : StR K H m S) {b : Addr} {o0 : HO} {o : HO} (hb : H b = some o0) (fl : Flex o0) (hm : b ∉ m) : StR K (upd H b o) m S := by
  refine ⟨s.len, s.nd, fun n c a e1 e2 => ?_⟩
  have hne : a ≠ b := fun q => by
    rw [q] at e2
    exact hm (List.mem_iff_getElem?.mpr ⟨n, e2⟩)
  have h := s.ok n c a e1 e2
  cases c with
  | lst ds => obtain ⟨vs, e, r⟩ := h; exact ⟨vs, (upd_ne hne).trans e, r.off hb fl⟩
  | dic kvs => obtain ⟨ks, e, r⟩ := h; exact ⟨ks, (upd_ne hne).trans e, Paired.mapP r fun _ _ z => ⟨z.1, z.2.off hb fl⟩⟩
theorem CellOk.grow (hm : ∀ (n : Nat) (a : Addr), m[n]? = some a → m'[n]? = some a) {a : Addr} {c : Cell} (h : CellOk K H m a c) : CellOk K H m' a c := by
  cases c with
  | lst ds => obtain ⟨vs, e1, r⟩ := h; exact ⟨vs, e1, r.grow hm⟩
  | dic kvs => obtain ⟨ks, e1, r⟩ := h; exact ⟨ks, e1, Paired.mapP r fun _ _ z => ⟨z.1, z.2.grow hm⟩⟩
/-- a list becomes a cell -/
theorem StR.adopt (s : StR K H m S) {p : Addr} {cl : Cell} (hn : p ∉ m) (r : CellOk K H m p cl) : StR K H (m ++ [p]) (S ++ [cl]) := by
  have hm : ∀ (n : Nat) (a : Addr), m[n]? = some a → (m ++ [p])[n]? = some a := fun n a e => by rw [List.getElem?_append_left (List.getElem?_eq_some_iff.mp e).1]; exact e
  refine ⟨by rw [List.length_append, List.length_append, s.len]; rfl, ?_, fun n c' a e1 e2 => ?_⟩
  · exact List.nodup_append.mpr ⟨s.nd, by simp, fun x hx y hy q => by
      rw [List.mem_singleton.mp hy] at q; rw [q] at hx; exact hn hx⟩
  · by_cases hl : n < m.length
    · rw [List.getElem?_append_left hl] at e2
      rw [List.getElem?_append_left (by rw [← s.len]; exact hl)] at e1
      exact (s.ok n c' a e1 e2).grow hm
    · have hm' : n = m.length := by
        have := (List.getElem?_eq_some_iff.mp e2).1
        rw [List.length_append, List.length_singleton] at this
        omega
      have hs : n = S.length := hm'.trans s.len
      rw [hm', List.getElem?_concat_length] at e2
      rw [hs, List.getElem?_concat_length] at e1
      cases e1; cases e2; exact r.grow hm
end

/-! ### the frame's slots -/
def RepO (K : PySem.W.Frag) (H : Hp) (m : List Addr) : Option D → Option V → Prop
  | none, _ => True
  | some d, some v => Rep K H m d v
  | some _, none => False
abbrev EnvR (K : PySem.W.Frag) (H : Hp) (m : List Addr) (ρ : Env) (σ : St) : Prop := Paired (RepO K H m) ρ σ
section
variable {K : PySem.W.Frag} {H H' : Hp} {m m' : List Addr} {S S' : Sto} {ρ : Env} {σ : St}
theorem RepO.mono (s : StR K H m S) (e : Ext H m H' m') {x : Option D} {y : Option V} (h : RepO K H m x y) : RepO K H' m' x y := by
  cases x with
  | none => trivial
  | some d =>
    cases y with
    | none => exact h
    | some v => exact Rep.mono s e h
theorem EnvR.mono (s : StR K H m S) (e : Ext H m H' m') (h : EnvR K H m ρ σ) : EnvR K H' m' ρ σ := Paired.mapP h fun _ _ z => z.mono s e
theorem EnvR.get : ∀ {ρ : Env} {σ : St} {i : Nat} {d : D}, EnvR K H m ρ σ → ρ[i]? = some (some d) → ∃ v, σ[i]? = some (some v) ∧ Rep K H m d v
  | _, _, _, _, .nil, h => by simp at h
  | _, _, 0, _, .cons (b := y) r _, h => by
    simp at h; subst h
    cases y with
    | none => exact r.elim
    | some v => exact ⟨v, rfl, r⟩
  | _, _, i + 1, _, .cons _ t, h => by
    obtain ⟨v, h1, h2⟩ := EnvR.get (i := i) t (by simpa using h)
    exact ⟨v, by simpa using h1, h2⟩
theorem EnvR.set : ∀ {ρ : Env} {σ : St} {x : Option D} {y : Option V} (i : Nat), EnvR K H m ρ σ → RepO K H m x y → EnvR K H m (ρ.set i x) (σ.set i y)
  | _, _, _, _, _, .nil, _ => .nil
  | _, _, _, _, 0, .cons _ t, r => .cons r t
  | _, _, _, _, i + 1, .cons q t, r => .cons q (EnvR.set i t r)
end
end DD

/-! What a def is worth upon data; its call; its body. -/
namespace DD
open PySem PySem.Spec PyProof.Rows L2

abbrev Fn := List D → Sto → Option (D × Sto)
/-- a def keeps what g says, at most k calls deep, no repr being under way -/
structure FnG (P : Program) (w : World) (K : PySem.W.Frag) (mg : Str → Option Value) (base : Heap) (k : Nat) (f : Addr) (fd : FuncData) (ps : List Str) (g : Fn) : Prop where
  len : ∀ ds S r, g ds S = some r → ds.length = ps.length
  run : ∀ (A : Around) (outer : List PySem.Env) (s : Shared) (H : Hp) (args : Args) (us : List Value) (vs : List V) (ds : List D) (m : List Addr) (S S' : Sto) (d : D) (Q : VK),
    Room k A → A.guards = some [] → Env0 P w K mg base A outer s H → BindsTo s fd args (ps.zip us) → Vals vs us → RepL K H m ds vs → StR K H m S → g ds S = some (d, S') →
    (∀ v H' m', Ext H m H' m' → StR K H' m' S' → Rep K H' m' d v → Q v H') → codeAny (model P w) A (.call (.ref f) args) (CR CX0 outer P w H s Q E0) s
theorem FnG.mono {P : Program} {w : World} {K : PySem.W.Frag} {mg : Str → Option Value} {base : Heap} {j k : Nat} {f : Addr} {fd : FuncData} {ps : List Str} {g : Fn} (F : FnG P w K mg base j f fd ps g) (h : j ≤ k) : FnG P w K mg base k f fd ps g :=
  ⟨F.len, fun A outer s H args us vs ds m S S' d Q hr => F.run A outer s H args us vs ds m S S' d Q (hr.mono h)⟩

/-- the room of a body: so many calls, no repr under way -/
structure RG (k : Nat) (X : Cx) : Prop where
  room : Room k X.A
  gd : X.A.guards = some []
  calm : X.calm = true
theorem RG.mono {j k : Nat} {X : Cx} (r : RG k X) (h : j ≤ k) : RG j X := ⟨r.room.mono h, r.gd, r.calm⟩

section
variable {X : Cx} {k : Nat} {f : Addr} {fd : FuncData} {ps : List Str} {g : Fn} {x : Str} {p pos : Pos} {e : Expr} {es : List Expr} {t : TA}
/-- what a call asks of the values handed over -/
def rCall (K : PySem.W.Frag) (g : Fn) (vs : List V) (H : Hp) (Q : VK) : Prop := ∃ ds m S d S', RepL K H m ds vs ∧ StR K H m S ∧ g ds S = some (d, S') ∧
  ∀ v H' m', Ext H m H' m' → StR K H' m' S' → Rep K H' m' d v → Q v H'
theorem end_call {pins : List (Addr × Obj)} {σ : L2.St} {H : Hp} {s : Shared} {Q : VK} (I : Inv X pins σ H s) (r : Result) (s' : Shared) (hq : CR CX0 X.stack X.prog X.w H s Q E0 r s') :
    ∃ u, r = .ok (.ret u) ∧ EP X pins σ Q u s' := by
  match r, hq with
  | .ok (.ret u), hq => exact ⟨u, rfl, I.after hq⟩
theorem run_g {pins : List (Addr × Obj)} {σ : L2.St} {H : Hp} {s : Shared} {Q : VK} {us : List Value} {vs : List V} (F : FnG X.prog X.w X.K X.mg X.base k f fd ps g) (hr : RG k X) (hb : Binds X.K fd ps [])
    (I : Inv X pins σ H s) (r : Vals vs us) (h : rCall X.K g vs H Q) : wpAny (model X.prog X.w) X.A (call (.ref f) us) (EP X pins σ Q) X.xe s := by
  obtain ⟨ds, m, S, d, S', rd, st, hg, q⟩ := h
  have hl : (us ++ ([] : List Value)).length = ps.length := by rw [List.append_nil, ← r.length, ← rd.length]; exact F.len _ _ _ hg
  have hb' := hb s us I.kIn hl
  rw [List.append_nil] at hb'
  refine wpAny_call (codeAny_mono (F.run X.A X.stack s H ⟨us, []⟩ us vs ds m S S' d Q hr.room hr.gd I.env0 hb' r rd st hg q) fun r s' hq => ?_)
  obtain ⟨u, rfl, z⟩ := end_call I r s' hq
  exact z
theorem pe_g (F : FnG X.prog X.w X.K X.mg X.base k f fd ps g) (hr : RG k X) (hg : Gl X x) (hm : X.mg x = some (.ref f)) (hk : PySem.W.keepIn X.K (.ref f) = true) (hb : Binds X.K fd ps [])
    (ha : PA X (e :: es) t) (hdb : (x == ("__debug__" : Str)) = false := by decide) (he : starEach (e :: es) X.env = (false, eval e X.env) :: starEach es X.env := by rfl) (hpl : (backTo pos (starEach es X.env)).any (·.1) = false := by rfl) :
    PE X (.Call (.Name x p) (e :: es) [] pos) (fun σ H Q => t σ H fun vs H1 => rCall X.K g vs H1 Q) := by
  refine ⟨fun pins s σ H Q I h => wpAny_Call_Name_kw (ld_glob I hg hm ?_ hdb)⟩
  refine PySem.W.callWith_K (h₀ := X.base) I.ok.mod.kin hk (thn (ha.run pos pins s σ H _ I h) fun us s1 hs => ?_) he hpl
  obtain ⟨vs, H1, I1, r, q⟩ := hs
  exact ⟨I1.kIn, run_g F hr hb I1 r q⟩
theorem pe_g0 (F : FnG X.prog X.w X.K X.mg X.base k f fd ps g) (hr : RG k X) (hg : Gl X x) (hm : X.mg x = some (.ref f)) (hk : PySem.W.keepIn X.K (.ref f) = true) (hb : Binds X.K fd ps [])
    (hdb : (x == ("__debug__" : Str)) = false := by decide) : PE X (.Call (.Name x p) [] [] pos) (fun σ H Q => rCall X.K g [] H Q) :=
  ⟨fun pins s σ H Q I h => wpAny_Call_Name_kw (ld_glob I hg hm (PySem.W.callWith_K0 I.kIn hk (run_g (us := []) F hr hb I .nil h)) hdb)⟩

/-- keywords: in which order the parameters stand -/
structure KwOk (K : PySem.W.Frag) (fd : FuncData) (ps ks : List Str) (n : Nat) (perm : List Nat) : Prop where
  to : ∀ (s : Shared) (us ws : List Value), K.In s.heap → us.length = n → ws.length = ks.length → BindsTo s fd ⟨us, ks.zip ws⟩ (ps.zip (us ++ perm.map fun i => ws.getD i .none))
  lt : ∀ i ∈ perm, i < ks.length
theorem vals_perm {zs : List V} {ws : List Value} (r : Vals zs ws) : ∀ (perm : List Nat), (∀ i ∈ perm, i < zs.length) → Vals (perm.map fun i => zs.getD i .non) (perm.map fun i => ws.getD i .none)
  | [], _ => .nil
  | i :: l, h => by
    refine .cons ?_ (vals_perm r l fun j hj => h j (List.mem_cons_of_mem _ hj))
    have hi := h i List.mem_cons_self
    obtain ⟨u, h1, h2⟩ := r.get (List.getElem?_eq_getElem hi)
    show L2.RelV (zs.getD i .non) (ws.getD i .none)
    rw [List.getD_eq_getElem?_getD, List.getD_eq_getElem?_getD, h1, List.getElem?_eq_getElem hi]
    exact h2
theorem run_gk {pins : List (Addr × Obj)} {σ : L2.St} {H : Hp} {s : Shared} {Q : VK} {us ws : List Value} {vs zs : List V} {ks : List Str} {n : Nat} {perm : List Nat} (F : FnG X.prog X.w X.K X.mg X.base k f fd ps g) (hr : RG k X) (hb : KwOk X.K fd ps ks n perm)
    (I : Inv X pins σ H s) (r : Vals vs us) (rz : Vals zs ws) (hn : vs.length = n) (hz : zs.length = ks.length) (h : rCall X.K g (vs ++ perm.map fun i => zs.getD i .non) H Q) : wpAny (model X.prog X.w) X.A (call (.ref f) us (ks.zip ws)) (EP X pins σ Q) X.xe s := by
  obtain ⟨ds, m, S, d, S', rd, st, hg, q⟩ := h
  have rr := r.append (vals_perm rz perm fun i hi => by rw [hz]; exact hb.lt i hi)
  refine wpAny_call (codeAny_mono (F.run X.A X.stack s H ⟨us, ks.zip ws⟩ _ _ ds m S S' d Q hr.room hr.gd I.env0 (hb.to s us ws I.kIn (by rw [← r.length]; exact hn) (by rw [← rz.length]; exact hz)) rr rd st hg q) fun r s' hq => ?_)
  obtain ⟨u, rfl, z⟩ := end_call I r s' hq
  exact z
/-- f(a, .., k = b, ..) -/
theorem pe_gk {ks : List Str} {n : Nat} {perm : List Nat} {kws : List Keyword} {tk : TA} (F : FnG X.prog X.w X.K X.mg X.base k f fd ps g) (hr : RG k X) (hg : Gl X x) (hm : X.mg x = some (.ref f)) (hk : PySem.W.keepIn X.K (.ref f) = true) (hb : KwOk X.K fd ps ks n perm)
    (ha : PA X (e :: es) t) (hkw : PK X kws tk) (hall : (backToKw pos (keywordEach kws X.env)).all (·.1.isSome) = true := by rfl) (hks : (backToKw pos (keywordEach kws X.env)).filterMap (·.1) = ks := by rfl)
    (hdb : (x == ("__debug__" : Str)) = false := by decide) (he : starEach (e :: es) X.env = (false, eval e X.env) :: starEach es X.env := by rfl)
    (hpl : ((backTo pos (starEach (e :: es) X.env)).any (·.1) || (backToKw pos (keywordEach kws X.env)).any (·.1.isNone)) = false := by rfl) :
    PE X (.Call (.Name x p) (e :: es) kws pos) (fun σ H Q => t σ H fun vs H1 => tk σ H1 fun zs H2 => vs.length = n ∧ zs.length = ks.length ∧ rCall X.K g (vs ++ perm.map fun i => zs.getD i .non) H2 Q) := by
  refine ⟨fun pins s σ H Q I h => wpAny_Call_Name_kw (ld_glob I hg hm ?_ hdb)⟩
  refine PySem.W.callWith_KW (h₀ := X.base) I.ok.mod.kin hk hall (thn (ha.run pos pins s σ H _ I h) fun us s1 hs => ?_) hpl he
  obtain ⟨vs, H1, I1, r, q⟩ := hs
  refine thn (hkw.run pos pins s1 σ H1 _ I1 q) fun ws s2 hs2 => ?_
  obtain ⟨zs, H2, I2, rz, q1, q2, q3⟩ := hs2
  rw [hks]
  exact ⟨I2.kIn, run_gk F hr hb I2 r rz q1 q2 q3⟩
/-- f(k = b, ..) -/
theorem pe_gk0 {ks : List Str} {perm : List Nat} {kws : List Keyword} {tk : TA} (F : FnG X.prog X.w X.K X.mg X.base k f fd ps g) (hr : RG k X) (hg : Gl X x) (hm : X.mg x = some (.ref f)) (hk : PySem.W.keepIn X.K (.ref f) = true) (hb : KwOk X.K fd ps ks 0 perm)
    (hkw : PK X kws tk) (hall : (backToKw pos (keywordEach kws X.env)).all (·.1.isSome) = true := by rfl) (hks : (backToKw pos (keywordEach kws X.env)).filterMap (·.1) = ks := by rfl)
    (hdb : (x == ("__debug__" : Str)) = false := by decide)
    (hpl : ((backTo pos (starEach [] X.env)).any (·.1) || (backToKw pos (keywordEach kws X.env)).any (·.1.isNone)) = false := by rfl) :
    PE X (.Call (.Name x p) [] kws pos) (fun σ H Q => tk σ H fun zs H2 => zs.length = ks.length ∧ rCall X.K g (perm.map fun i => zs.getD i .non) H2 Q) := by
  refine ⟨fun pins s σ H Q I h => wpAny_Call_Name_kw (ld_glob I hg hm ?_ hdb)⟩
  refine PySem.W.callWith_KW0 (h₀ := X.base) I.ok.mod.kin hk hall (thn (hkw.run pos pins s σ H _ I h) fun ws s2 hs2 => ?_) hpl
  obtain ⟨zs, H2, I2, rz, q2, q3⟩ := hs2
  rw [hks]
  exact ⟨I2.kIn, run_gk (us := []) F hr hb I2 .nil rz rfl q2 q3⟩
end

/-! ### a body -/
inductive Out where
  | nx (ρ : Env) (S : Sto) | rt (d : D) (S : Sto) | bk (ρ : Env) (S : Sto) | ct (ρ : Env) (S : Sto)
abbrev SM := Env → Sto → Option Out
def OutOk (K : PySem.W.Frag) (H : Hp) (m : List Addr) (o : Out) (E : Ends) : Prop :=
  match o with
  | .nx ρ S => ∀ σ H' m', Ext H m H' m' → StR K H' m' S → EnvR K H' m' ρ σ → E.nx σ H'
  | .rt d S => ∀ v H' m', Ext H m H' m' → StR K H' m' S → Rep K H' m' d v → E.rt v H'
  | .bk ρ S => ∀ σ H' m', Ext H m H' m' → StR K H' m' S → EnvR K H' m' ρ σ → E.bk σ H'
  | .ct ρ S => ∀ σ H' m', Ext H m H' m' → StR K H' m' S → EnvR K H' m' ρ σ → E.ct σ H'
theorem OutOk.mono {K : PySem.W.Frag} {H H1 : Hp} {m m1 : List Addr} {o : Out} {E : Ends} (x : Ext H m H1 m1) (h : OutOk K H m o E) : OutOk K H1 m1 o E := by
  cases o with
  | nx ρ S => exact fun σ H' m' e => h σ H' m' (x.trans e)
  | rt d S => exact fun σ H' m' e => h σ H' m' (x.trans e)
  | bk ρ S => exact fun σ H' m' e => h σ H' m' (x.trans e)
  | ct ρ S => exact fun σ H' m' e => h σ H' m' (x.trans e)
/-- a statement's reading upon data -/
def tS (K : PySem.W.Frag) (f : SM) : TS := fun E σ H => ∃ ρ S m o, EnvR K H m ρ σ ∧ StR K H m S ∧ f ρ S = some o ∧ OutOk K H m o E

/-- the whole def: n parameters, N names -/
def mkFn (n N : Nat) (body : SM) : Fn := fun ds S => if ds.length = n then
    match body (ds.map some ++ List.replicate (N - n) none) S with
    | some (.rt d S') => some (d, S')
    | some (.nx _ S') => some (.non, S')
    | _ => none
  else none
theorem envR_start {K : PySem.W.Frag} {H : Hp} {m : List Addr} : ∀ {ds : List D} {vs : List V} (j : Nat), RepL K H m ds vs → EnvR K H m (ds.map some ++ List.replicate j none) (vs.map some ++ List.replicate j none)
  | _, _, 0, .nil => .nil
  | _, _, j + 1, .nil => .cons trivial (envR_start j .nil)
  | _, _, j, .cons r t => .cons r (envR_start j t)
theorem fn_g {P : Program} {w : World} {K : PySem.W.Frag} {mg : Str → Option Value} {base : Heap} {x qual : Str} {st : Stmt} {f : Addr} {fd : FuncData} {N ps : List Str} {k : Nat} {body : SM} (F : Fun K x qual st f fd) (Sc : FnScope N ps (defScope st)) {n NN : Nat} (hn : ps.length = n) (hN : N.length = NN)
    (hbody : ∀ (cdv : Value) (A : Around) (outer : List PySem.Env) (s : Shared) (H : Hp), RG k (cxOf CX0 P w K mg base N qual (defScope st) f cdv A outer s H E0).nox →
      PSs (cxOf CX0 P w K mg base N qual (defScope st) f cdv A outer s H E0).nox (defBody st) (tS K body)) : FnG P w K mg base (k + 1) f fd ps (mkFn n NN body) := by
  obtain ⟨oc, od, kV, doc, pm, an, cdv, ct, osl, rfl, lk, hcd⟩ := F.ex
  subst hn; subst hN
  have key : ∀ ds S r, mkFn ps.length N.length body ds S = some r → ds.length = ps.length := fun ds S r h => by
    unfold mkFn at h
    by_cases hl : ds.length = ps.length
    · exact hl
    · rw [if_neg hl] at h; cases h
  refine ⟨key, fun A outer s H args us vs ds m S S' d Q hr hgd e0 hb r rd sr hg q => ?_⟩
  have hd : ds.length = ps.length := key _ _ _ hg
  have hl : vs.length = ps.length := by rw [← rd.length]; exact hd
  have KX : K.In s.heap := e0.mod.kin.keeps fun b o e => (e0.bs b o e).1
  have lim : s.heap.NoLimit := e0.mod.nolimit.keeps fun b o e => (e0.bs b o e).1
  refine codeAny_call_function hr.depth (KX _ _ lk) rfl Sc.co Sc.gen rfl (PySem.W.codeRec_of KX hcd) (hb _ _ _ _ ?_)
  refine wpAny_newFunctionEnv_cells Sc.kind ?_ fun env he s1 x => ?_
  · intro y hy
    have hm := (List.of_mem_zip (a := y.1) (b := y.2) hy).1
    exact (Sc.par y.1 hm).imp id fun q => ⟨q, PySem.W.cellsFrom_some _ _ _ (.inl q)⟩
  subst he
  refine ⟨lim.keeps x.toInCall.keep, codeAny_func ?_⟩
  have I := inv_start (CX := CX0) (E := E0) Sc hr.hd e0 hl r x
  have ht := (hbody cdv A outer s H ⟨hr.deeper _, hgd, rfl⟩).nox
  unfold mkFn at hg
  rw [if_pos hd] at hg
  have hs : L2.start N vs = vs.map some ++ List.replicate (N.length - ps.length) none := by unfold L2.start; rw [hl]
  have eR : EnvR K H m (ds.map some ++ List.replicate (N.length - ps.length) none) (L2.start N vs) := by rw [hs]; exact envR_start _ rd
  have goal : tS K body { nx := fun _ H' => Q .non H', rt := Q } (L2.start N vs) H := by
    cases hbd : body (ds.map some ++ List.replicate (N.length - ps.length) none) S with
    | none => rw [hbd] at hg; cases hg
    | some o =>
      rw [hbd] at hg
      refine ⟨_, S, m, o, eR, sr, hbd, ?_⟩
      cases o with
      | rt d' S1 => cases hg; exact fun v H' m' e st rp => q v H' m' e st rp
      | nx ρ S1 => cases hg; exact fun σ H' m' e st _ => q .non H' m' e st .non
      | bk ρ S1 => cases hg
      | ct ρ S1 => cases hg
  refine wpAny_mono (ht.run [] s1 (L2.start N vs) H _ I goal) (fun fl s' hs => ?_) fun e s' hs => hs
  match fl, hs with
  | .ret u, ⟨v, σ', H', J, rv, q⟩ => exact ⟨v, H', J.os, J.bare, J.base, J.hok, rv, q⟩
  | .next, ⟨σ', H', J, q⟩ => exact ⟨.non, H', J.os, J.bare, J.base, J.hok, rfl, q⟩
  | .brk, ⟨_, _, _, q⟩ => exact False.elim q
  | .cont, ⟨_, _, _, q⟩ => exact False.elim q

/-! ### the end of a law -/
theorem law_end {l : PySem.W.OpenLaw} {n k : Nat} {q : Program} {loose : List Str} {XP : (Str → Option Value) → Heap → Prop} {YP : World → Heap → Prop} {d : DefRec} {K : Params → PySem.W.Frag} {g : Fn} {x : Str}
    (hn : l.most = some n) (hn2 : n ≤ sizeLine) (hdf : d.params.defaults = []) (hr : Room k callerA)
    (hY : ∀ (w : World) (h : Heap), YP w h → (K w.params).In h)
    (F : ∀ (w : World) (mg : Str → Option Value) (fa : Addr) (h : Heap), (K w.params).In h → h.Ns mainGlobals mg → mg d.name = some (.ref fa) →
      ∃ fd : FuncData, (∀ (s : Shared) (u : Value), BindsTo s fd ⟨[u], []⟩ [(x, u)]) ∧
        ∀ base : Heap, (K w.params).In base → base.Ns mainGlobals mg → FnG l.prog w (K w.params) mg base k fa fd [x] g)
    (hg : ∀ ns : List Int, ns.length ≤ n → ∃ S, g [.rol (ns.map D.int)] [] = some (.bl true, S)) :
    PySem.W.WalkO q loose XP YP l.row.toRowW d [] (fun f vs => PySem.call f vs) := by
  refine Att.attach_call hn hdf fun w s₀ s₁ mg mb fa o pm cd doc a vs ns G Y ho hd hcd hmg hobj hints hlen hgens => ?_
  have KX := hY w _ Y
  obtain ⟨fd, hb, hF⟩ := F w mg fa _ KX G.T.g hmg
  obtain ⟨Sn, hgn⟩ := hg ns hlen
  have rv := vals_ints hints
  have lenV := hints.length
  have core : ∀ H : Hp, Only H → RoL (K w.params) H a (ns.map V.int) → HOk l.prog w H s₁.heap → (∀ b, H b ≠ none → b = a) → (H a ≠ none → (K w.params).lookup a = none) →
      codeAny (model l.prog w) callerA (.call (.ref fa) ⟨[.ref a], []⟩) (fun r s' => r = .ok (.ret (.bool true)) ∧ OldK s₁.heap s'.heap ∧ s'.os = s₁.os ∧ AllBare s'.gens) s₁ := by
    intro H hO hS hok hA hK
    have track : ∀ b : Addr, H b = none ∨ b = a := fun b => by
      cases q : H b with
      | none => exact .inl rfl
      | some u => exact .inr (hA b (by rw [q]; simp))
    have noA : ∀ {b : Addr} {o : Obj} {es : Array DictEntry} {ep : Nat}, s₁.heap.get? b = some o → o.data = .dict es ep → H b = none := fun {b o es ep} e dd => (track b).resolve_right fun z => by
      rw [z, hobj] at e; cases e
      cases dd
    have nsK : ∀ {b : Addr} {m : Str → Option Value}, s₁.heap.Ns b m → (hidT s₁.heap H).Ns b m := fun {b m} hm => by
      obtain ⟨o, es, ep, e, dd, r⟩ := hm
      exact ⟨o, es, ep, hidT_get e (noA e dd), dd, r⟩
    have hKb : (K w.params).In (hidT s₁.heap H) := fun b o e => hidT_get (KX b o e) (by
      cases q : H b with
      | none => rfl
      | some u =>
        have z := hA b (by rw [q]; simp)
        subst z
        rw [hK (by rw [q]; simp)] at e; cases e)
    have e0 : Env0 l.prog w (K w.params) mg (hidT s₁.heap H) callerA [] s₁ H := by
      refine ⟨rfl, ⟨hKb, nsK G.T.g, ⟨mb, nsK G.T.b, G.T.builtins⟩, ?_⟩, fun b o e => of_hidT e, Nat.le_of_eq (hidT_size _ _), trivial, (fun b hb => by cases hb), hok, .of_eq hgens⟩
      obtain ⟨mc, h1, h2⟩ := G.T.nolimit
      exact ⟨mc, nsK h1, h2⟩
    have sr : StR (K w.params) H [] [] := ⟨rfl, List.nodup_nil, fun n c a e _ => by simp at e⟩
    refine codeAny_mono ((hF _ hKb (nsK G.T.g)).run callerA [] s₁ H ⟨[.ref a], []⟩ [.ref a] [.ref a] [.rol (ns.map D.int)] [] [] Sn (.bl true) (fun v _ => v = .bl true) hr rfl e0 (hb s₁ (.ref a)) (.cons rfl .nil) (.cons (.rol hS (RepL.ints ns)) .nil) sr hgn
      fun v H' m' _ _ rp => by cases rp; rfl) fun r s' h => ?_
    match r, h with
    | .ok (.ret u), ⟨v, H', os, bare, un, hok', r', q⟩ =>
      have q' : v = .bl true := q
      subst q'
      obtain rfl : u = Value.bool true := r'
      refine ⟨rfl, OldK.of_keep fun b o e => ?_, os, bare⟩
      rcases hO b with z | ⟨ob, xs, z⟩
      · exact un.keep b o e z (by intro z; cases z) (by simp)
      · obtain ⟨e1, _⟩ := hok b _ z
        obtain ⟨e2, _⟩ := hok' b _ (un.frzs b ob _ z)
        rw [e] at e1; cases e1
        exact e2
  have sz : ns.length ≤ sizeLine := Nat.le_trans hlen hn2
  cases hk : (K w.params).lookup a with
  | some o =>
    have e := KX a o hk
    rw [hobj] at e
    cases e
    exact core (fun _ => none) (fun _ => .inl rfl) (.inr ⟨vs.toArray, _, hk, by rw [List.size_toArray, lenV]; exact sz, by simpa using rv⟩) (fun b u z => by cases z) (fun b z => absurd rfl z) fun z => absurd rfl z
  | none =>
    have sing : ∀ b : Addr, b ≠ a → upd (fun _ => none) a (HO.frz { cls := .type "list", data := .seq vs.toArray } (.lst (ns.map V.int))) b = none := fun b h => upd_ne h
    refine core (upd (fun _ => none) a (.frz { cls := .type "list", data := .seq vs.toArray } (.lst (ns.map V.int)))) (fun b => ?_) (.inl ⟨_, upd_same⟩) (fun b u z => ?_) (fun b z => ?_) fun _ => hk
    · by_cases h : b = a
      · subst h; exact .inr ⟨_, _, upd_same⟩
      · exact .inl (sing b h)
    · by_cases h : b = a
      · subst h; rw [upd_same] at z; cases z
        exact ⟨hobj, by rw [List.length_map]; exact sz, vs, _, rv, hobj⟩
      · rw [sing b h] at z; cases z
    · by_cases h : b = a
      · exact h
      · exact absurd (sing b h) z
end DD

/-! Expressions upon data. -/
namespace DD
open PySem PySem.Spec PyProof.Rows L2

abbrev Ex := Env → Sto → Option (D × Sto)
abbrev As := Env → Sto → Option (List D × Sto)
abbrev Tx := Env → Sto → Option (Bool × Sto)
def tE (K : PySem.W.Frag) (f : Ex) : TE := fun σ H Q => ∃ ρ S m d S', EnvR K H m ρ σ ∧ StR K H m S ∧ f ρ S = some (d, S') ∧ ∀ v H' m', Ext H m H' m' → StR K H' m' S' → Rep K H' m' d v → Q v H'
def tA (K : PySem.W.Frag) (f : As) : TA := fun σ H Q => ∃ ρ S m ds S', EnvR K H m ρ σ ∧ StR K H m S ∧ f ρ S = some (ds, S') ∧ ∀ vs H' m', Ext H m H' m' → StR K H' m' S' → RepL K H' m' ds vs → Q vs H'
def tT (K : PySem.W.Frag) (f : Tx) : TT := fun σ H Q => ∃ ρ S m b S', EnvR K H m ρ σ ∧ StR K H m S ∧ f ρ S = some (b, S') ∧ ∀ H' m', Ext H m H' m' → StR K H' m' S' → Q b H'
abbrev DE (X : Cx) (e : Expr) (f : Ex) : Prop := PE X e (tE X.K f)
structure DA (X : Cx) (es : List Expr) (f : As) : Prop where
  pa : PA X es (tA X.K f)
  len : ∀ ρ S ds S', f ρ S = some (ds, S') → ds.length = es.length
abbrev DT (X : Cx) (e : Expr) (f : Tx) : Prop := PT X e (tT X.K f)
abbrev DW (X : Cx) (e : Expr) (f : Tx) : Prop := PW X e (tT X.K f)

theorem pew {X : Cx} {e : Expr} {t t' : TE} (h : PE X e t) (w : ∀ σ H Q, t' σ H Q → t σ H Q) : PE X e t' := ⟨fun pins s σ H Q I q => h.run pins s σ H Q I (w σ H Q q)⟩
theorem ptw {X : Cx} {e : Expr} {t t' : TT} (h : PT X e t) (w : ∀ σ H Q, t' σ H Q → t σ H Q) : PT X e t' := ⟨fun pins s σ H Q I q => h.run pins s σ H Q I (w σ H Q q)⟩
theorem pww {X : Cx} {e : Expr} {t t' : TT} (h : PW X e t) (w : ∀ σ H Q, t' σ H Q → t σ H Q) : PW X e t' := ⟨fun wh pins s σ H Q I q => h.run wh pins s σ H Q I (w σ H Q q)⟩
theorem paw {X : Cx} {e : List Expr} {t t' : TA} (h : PA X e t) (w : ∀ σ H Q, t' σ H Q → t σ H Q) : PA X e t' := ⟨fun pos pins s σ H Q I q => h.run pos pins s σ H Q I (w σ H Q q)⟩
theorem pkw {X : Cx} {e : List Keyword} {t t' : TA} (h : PK X e t) (w : ∀ σ H Q, t' σ H Q → t σ H Q) : PK X e t' := ⟨fun pos pins s σ H Q I q => h.run pos pins s σ H Q I (w σ H Q q)⟩

theorem obind {α β : Type} {o : Option α} {f : α → Option β} {b : β} (h : o.bind f = some b) : ∃ a, o = some a ∧ f a = some b := by
  cases o with
  | none => cases h
  | some a => exact ⟨a, rfl, h⟩

/-! ### names, constants -/
def mV (i : Nat) : Ex := fun ρ S => match ρ[i]? with | some (some d) => some (d, S) | _ => none
def mC (d : D) : Ex := fun _ S => some (d, S)
section
variable {X : Cx} {e a b c : Expr} {es : List Expr} {fa fb fc : Ex} {ga : As} {ta tb : Tx} {pos : Pos}
theorem de_v (i : Nat) {x : Str} (hN : X.N[i]? = some x := by rfl) (hv : Vis X.env.scope x := by first | exact Or.inl rfl | exact Or.inr (Or.inl rfl) | exact Or.inr (Or.inr rfl)) (hd : (x == ("__debug__" : Str)) = false := by decide)
    (hcd : (x == ("__classdict__" : Str)) = false := by decide) : DE X (.Name x pos) (mV i) := pew (pe_var hN hv hd hcd) fun σ H Q h => by
  obtain ⟨ρ, S, m, d, S', E, st, hf, k⟩ := h
  unfold mV at hf
  cases hr : ρ[i]? with
  | none => rw [hr] at hf; cases hf
  | some o =>
    rw [hr] at hf
    cases o with
    | none => cases hf
    | some d' =>
      cases hf
      obtain ⟨v, h1, h2⟩ := E.get hr
      exact ⟨v, h1, k v H m (Ext.refl H m) st h2⟩
theorem de_const {v : V} {d : D} (h : PE X e (tC v)) (r : ∀ H m, Rep X.K H m d v) : DE X e (mC d) := pew h fun σ H Q h => by
  obtain ⟨ρ, S, m, d', S', E, st, hf, k⟩ := h
  cases hf
  exact k v H m (Ext.refl H m) st (r H m)
theorem de_int {i : Int} {j : Nat} : DE X (.Constant (.int i) j pos) (mC (.int i)) := de_const pe_int fun _ _ => .int i
theorem de_bl {i : Bool} {j : Nat} : DE X (.Constant (.bool i) j pos) (mC (.bl i)) := de_const pe_bl fun _ _ => .bl i
theorem de_str {i : Str} {j : Nat} : DE X (.Constant (.str i) j pos) (mC (.str i)) := de_const pe_str fun _ _ => .str i
theorem de_non {j : Nat} : DE X (.Constant .none j pos) (mC .non) := de_const pe_non fun _ _ => .non
/-- a module's constant -/
theorem de_glI {x : Str} {u : Value} {i : Int} (hg : Gl X x) (hm : X.mg x = some u) (r : RelV (.int i) u) (hd : (x == ("__debug__" : Str)) = false := by decide) : DE X (.Name x pos) (mC (.int i)) := de_const (pe_glob hg hm r hd) fun _ _ => .int i
theorem de_glS {x : Str} {u : Value} {i : Str} (hg : Gl X x) (hm : X.mg x = some u) (r : RelV (.str i) u) (hd : (x == ("__debug__" : Str)) = false := by decide) : DE X (.Name x pos) (mC (.str i)) := de_const (pe_glob hg hm r hd) fun _ _ => .str i

/-! ### arguments -/
def mNil : As := fun _ S => some ([], S)
def mCons (f : Ex) (g : As) : As := fun ρ S => (f ρ S).bind fun p => (g ρ p.2).bind fun q => some (p.1 :: q.1, q.2)
theorem da_nil : DA X [] mNil := ⟨paw pa_nil fun σ H Q h => by
  obtain ⟨ρ, S, m, d', S', E, st, hf, k⟩ := h
  cases hf
  exact k [] H m (Ext.refl H m) st .nil, fun ρ S ds S' h => by cases h; rfl⟩
theorem da_cons (ha : DE X e fa) (hr : DA X es ga) (hs : starEach (e :: es) X.env = (false, eval e X.env) :: starEach es X.env := by rfl) : DA X (e :: es) (mCons fa ga) := ⟨paw (pa_cons ha hr.pa hs) fun σ H Q h => by
  obtain ⟨ρ, S, m, d', S', E, st, hf, k⟩ := h
  obtain ⟨p, h1, hf⟩ := obind hf
  obtain ⟨q, h2, hf⟩ := obind hf
  cases hf
  exact ⟨ρ, S, m, p.1, p.2, E, st, h1, fun v H1 m1 x1 s1 r1 => ⟨ρ, p.2, m1, q.1, q.2, E.mono st x1, s1, h2, fun vs H2 m2 x2 s2 r2 => k (v :: vs) H2 m2 (x1.trans x2) s2 (.cons (r1.mono s1 x2) r2)⟩⟩,
  fun ρ S ds S' h => by
    obtain ⟨p, h1, hf⟩ := obind h
    obtain ⟨q, h2, hf⟩ := obind hf
    cases hf
    rw [List.length_cons, List.length_cons, hr.len _ _ _ _ h2]⟩
/-- keywords -/
structure DK (X : Cx) (es : List Keyword) (f : As) : Prop where
  pk : PK X es (tA X.K f)
  len : ∀ ρ S ds S', f ρ S = some (ds, S') → ds.length = es.length
theorem dk_nil : DK X [] mNil := ⟨pkw pk_nil fun σ H Q h => by
  obtain ⟨ρ, S, m, d', S', E, st, hf, k⟩ := h
  cases hf
  exact k [] H m (Ext.refl H m) st .nil, fun ρ S ds S' h => by cases h; rfl⟩
theorem dk_cons {nm : Option Str} {kpos : Pos} {kws : List Keyword} (ha : DE X e fa) (hr : DK X kws ga) : DK X (⟨nm, e, kpos⟩ :: kws) (mCons fa ga) := ⟨pkw (pk_cons ha hr.pk) fun σ H Q h => by
  obtain ⟨ρ, S, m, d', S', E, st, hf, k⟩ := h
  obtain ⟨p, h1, hf⟩ := obind hf
  obtain ⟨q, h2, hf⟩ := obind hf
  cases hf
  exact ⟨ρ, S, m, p.1, p.2, E, st, h1, fun v H1 m1 x1 s1 r1 => ⟨ρ, p.2, m1, q.1, q.2, E.mono st x1, s1, h2, fun vs H2 m2 x2 s2 r2 => k (v :: vs) H2 m2 (x1.trans x2) s2 (.cons (r1.mono s1 x2) r2)⟩⟩,
  fun ρ S ds S' h => by
    obtain ⟨p, h1, hf⟩ := obind h
    obtain ⟨q, h2, hf⟩ := obind hf
    cases hf
    rw [List.length_cons, List.length_cons, hr.len _ _ _ _ h2]⟩

/-! ### calls of the text's own defs -/
def mCall (g : Fn) (as : As) : Ex := fun ρ S => (as ρ S).bind fun p => g p.1 p.2
theorem de_call {k : Nat} {f : Addr} {fd : FuncData} {ps : List Str} {g : Fn} {x : Str} {p : Pos} (F : FnG X.prog X.w X.K X.mg X.base k f fd ps g) (hr : RG k X) (hg : Gl X x) (hm : X.mg x = some (.ref f)) (hk : PySem.W.keepIn X.K (.ref f) = true) (hb : Binds X.K fd ps [])
    (ha : DA X (e :: es) ga) (hdb : (x == ("__debug__" : Str)) = false := by decide) (he : starEach (e :: es) X.env = (false, eval e X.env) :: starEach es X.env := by rfl) (hpl : (backTo pos (starEach es X.env)).any (·.1) = false := by rfl) :
    DE X (.Call (.Name x p) (e :: es) [] pos) (mCall g ga) := pew (pe_g F hr hg hm hk hb ha.pa hdb he hpl) fun σ H Q h => by
  obtain ⟨ρ, S, m, d', S', E, st, hf, q⟩ := h
  obtain ⟨p, h1, hf⟩ := obind hf
  exact ⟨ρ, S, m, p.1, p.2, E, st, h1, fun vs H1 m1 x1 s1 r1 => ⟨p.1, m1, p.2, d', S', r1, s1, hf, fun v H2 m2 x2 s2 r2 => q v H2 m2 (x1.trans x2) s2 r2⟩⟩
theorem repL_perm {K : PySem.W.Frag} {H : Hp} {m : List Addr} {qs : List D} {zs : List V} (r : RepL K H m qs zs) : ∀ (perm : List Nat), (∀ i ∈ perm, i < qs.length) → RepL K H m (perm.map fun i => qs.getD i .non) (perm.map fun i => zs.getD i .non)
  | [], _ => .nil
  | i :: l, h => by
    refine .cons ?_ (repL_perm r l fun j hj => h j (List.mem_cons_of_mem _ hj))
    obtain ⟨u, h1, h2⟩ := r.get (List.getElem?_eq_getElem (h i List.mem_cons_self))
    show Rep K H m (qs.getD i .non) (zs.getD i .non)
    rw [List.getD_eq_getElem?_getD, List.getD_eq_getElem?_getD, h1, List.getElem?_eq_getElem (h i List.mem_cons_self)]
    exact h2
def mCallK (g : Fn) (perm : List Nat) (as ks : As) : Ex := fun ρ S => (as ρ S).bind fun p => (ks ρ p.2).bind fun q => g (p.1 ++ perm.map fun i => q.1.getD i .non) q.2
theorem de_callK0 {k : Nat} {f : Addr} {fd : FuncData} {ps ks : List Str} {perm : List Nat} {kws : List Keyword} {g : Fn} {x : Str} {p : Pos} (F : FnG X.prog X.w X.K X.mg X.base k f fd ps g) (hr : RG k X) (hg : Gl X x) (hm : X.mg x = some (.ref f)) (hk : PySem.W.keepIn X.K (.ref f) = true)
    (hb : KwOk X.K fd ps ks 0 perm) (ha : DK X kws ga) (hl : kws.length = ks.length := by rfl) (hall : (backToKw pos (keywordEach kws X.env)).all (·.1.isSome) = true := by rfl) (hks : (backToKw pos (keywordEach kws X.env)).filterMap (·.1) = ks := by rfl)
    (hdb : (x == ("__debug__" : Str)) = false := by decide) (hpl : ((backTo pos (starEach [] X.env)).any (·.1) || (backToKw pos (keywordEach kws X.env)).any (·.1.isNone)) = false := by rfl) :
    DE X (.Call (.Name x p) [] kws pos) (mCallK g perm mNil ga) := pew (pe_gk0 F hr hg hm hk hb ha.pk hall hks hdb hpl) fun σ H Q h => by
  obtain ⟨ρ, S, m, d', S', E, st, hf, q⟩ := h
  obtain ⟨p, h1, hf⟩ := obind hf
  cases h1
  obtain ⟨p, h1, hf⟩ := obind hf
  have hz : p.1.length = ks.length := (ha.len _ _ _ _ h1).trans hl
  exact ⟨ρ, S, m, p.1, p.2, E, st, h1, fun vs H1 m1 x1 s1 r1 => ⟨r1.length.symm.trans hz, _, m1, p.2, d', S', repL_perm r1 perm fun i hi => by rw [hz]; exact hb.lt i hi, s1, hf, fun v H2 m2 x2 s2 r2 => q v H2 m2 (x1.trans x2) s2 r2⟩⟩
theorem de_callK {k n : Nat} {f : Addr} {fd : FuncData} {ps ks : List Str} {perm : List Nat} {kws : List Keyword} {gk : As} {g : Fn} {x : Str} {p : Pos} (F : FnG X.prog X.w X.K X.mg X.base k f fd ps g) (hr : RG k X) (hg : Gl X x) (hm : X.mg x = some (.ref f)) (hk : PySem.W.keepIn X.K (.ref f) = true)
    (hb : KwOk X.K fd ps ks n perm) (ha : DA X (e :: es) ga) (hak : DK X kws gk) (hn : (e :: es).length = n := by rfl) (hl : kws.length = ks.length := by rfl) (hall : (backToKw pos (keywordEach kws X.env)).all (·.1.isSome) = true := by rfl) (hks : (backToKw pos (keywordEach kws X.env)).filterMap (·.1) = ks := by rfl)
    (hdb : (x == ("__debug__" : Str)) = false := by decide) (he : starEach (e :: es) X.env = (false, eval e X.env) :: starEach es X.env := by rfl) (hpl : ((backTo pos (starEach (e :: es) X.env)).any (·.1) || (backToKw pos (keywordEach kws X.env)).any (·.1.isNone)) = false := by rfl) :
    DE X (.Call (.Name x p) (e :: es) kws pos) (mCallK g perm ga gk) := pew (pe_gk F hr hg hm hk hb ha.pa hak.pk hall hks hdb he hpl) fun σ H Q h => by
  obtain ⟨ρ, S, m, d', S', E, st, hf, q⟩ := h
  obtain ⟨p0, h0, hf⟩ := obind hf
  obtain ⟨p, h1, hf⟩ := obind hf
  have hz : p.1.length = ks.length := (hak.len _ _ _ _ h1).trans hl
  refine ⟨ρ, S, m, p0.1, p0.2, E, st, h0, fun vs H1 m1 x1 s1 r1 => ⟨ρ, p0.2, m1, p.1, p.2, E.mono st x1, s1, h1, fun zs H2 m2 x2 s2 r2 => ?_⟩⟩
  refine ⟨r1.length.symm.trans ((ha.len _ _ _ _ h0).trans hn), r2.length.symm.trans hz, _, m2, p.2, d', S', (r1.mono s1 x2).app (repL_perm r2 perm fun i hi => by rw [hz]; exact hb.lt i hi), s2, hf, fun v H3 m3 x3 s3 r3 => q v H3 m3 ((x1.trans x2).trans x3) s3 r3⟩

/-! ### displays -/
def mTup (as : As) : Ex := fun ρ S => (as ρ S).bind fun p => some (.tup p.1, p.2)
def mLst (as : As) : Ex := fun ρ S => (as ρ S).bind fun p => some (.loc p.2.length, p.2 ++ [.lst p.1])
theorem de_tup {x1 : Nat} (ha : DA X es ga) (hl : es.length ≤ 1000 := by decide) : DE X (.Tuple es x1 pos) (mTup ga) := pew (pe_tup ha.pa) fun σ H Q h => by
  obtain ⟨ρ, S, m, d', S', E, st, hf, q⟩ := h
  obtain ⟨p, h1, hf⟩ := obind hf
  cases hf
  refine ⟨ρ, S, m, p.1, p.2, E, st, h1, fun vs H1 m1 x1 s1 r1 => ⟨?_, fun l hl' => ?_⟩⟩
  · rw [← r1.length, ha.len _ _ _ _ h1]; exact Nat.le_trans hl (by decide)
  · have x2 : Ext H1 m1 (upd H1 l (.tup vs)) m1 := Ext.new1 hl'
    exact q _ _ m1 (x1.trans x2) (s1.new1 hl') (.tup (SqT.of upd_same) (r1.mono s1 x2))
theorem newL {K : PySem.W.Frag} {H : Hp} {m : List Addr} {S : Sto} {ds : List D} {vs : List V} {p : Addr} (s : StR K H m S) (r : RepL K H m ds vs) (hp : H p = none) :
    Ext H m (upd H p (.lst vs)) (m ++ [p]) ∧ StR K (upd H p (.lst vs)) (m ++ [p]) (S ++ [.lst ds]) ∧ Rep K (upd H p (.lst vs)) (m ++ [p]) (.loc S.length) (.ref p) := by
  have x := Ext.newC (o := HO.lst vs) s hp
  refine ⟨x, s.newC hp ⟨vs, upd_same, r.mono s x⟩, .loc ?_⟩
  rw [← s.len, List.getElem?_concat_length]
theorem de_lst (ha : DA X es ga) (hl : es.length ≤ 1000 := by decide) : DE X (.List es pos) (mLst ga) := pew (pe_lst ha.pa) fun σ H Q h => by
  obtain ⟨ρ, S, m, d', S', E, st, hf, q⟩ := h
  obtain ⟨p, h1, hf⟩ := obind hf
  cases hf
  refine ⟨ρ, S, m, p.1, p.2, E, st, h1, fun vs H1 m1 x1 s1 r1 => ⟨?_, fun l hl' => ?_⟩⟩
  · rw [← r1.length, ha.len _ _ _ _ h1]; exact Nat.le_trans hl (by decide)
  · obtain ⟨a1, a2, a3⟩ := newL s1 r1 hl'
    exact q _ _ _ (x1.trans a1) a2 a3

/-! ### two-place operations -/
abbrev Op2 := D → D → Sto → Option (D × Sto)
def OpD (K : PySem.W.Frag) (r : R2) (g : Op2) : Prop := ∀ (H : Hp) (m : List Addr) (S : Sto) (x y : V) (d e d' : D) (S' : Sto) (Q : VK), StR K H m S → Rep K H m d x → Rep K H m e y → g d e S = some (d', S') →
  (∀ v H' m', Ext H m H' m' → StR K H' m' S' → Rep K H' m' d' v → Q v H') → r x y H Q
def m2 (g : Op2) (fa fb : Ex) : Ex := fun ρ S => (fa ρ S).bind fun p => (fb ρ p.2).bind fun q => g p.1 q.1 q.2
theorem use2 {K : PySem.W.Frag} {r : R2} {g : Op2} (o : OpD K r g) {σ : L2.St} {H : Hp} {Q : VK} (h : tE K (m2 g fa fb) σ H Q) : tOp r (tE K fa) (tE K fb) σ H Q := by
  obtain ⟨ρ, S, m, d', S', E, st, hf, q⟩ := h
  obtain ⟨p1, h1, hf⟩ := obind hf
  obtain ⟨p2, h2, hf⟩ := obind hf
  exact ⟨ρ, S, m, p1.1, p1.2, E, st, h1, fun v H1 m1 x1 s1 r1 => ⟨ρ, p1.2, m1, p2.1, p2.2, E.mono st x1, s1, h2, fun u H2 m2 x2 s2 r2 =>
    o H2 m2 p2.2 v u p1.1 p2.1 d' S' Q s2 (r1.mono s1 x2) r2 hf fun w H3 m3 x3 s3 r3 => q w H3 m3 ((x1.trans x2).trans x3) s3 r3⟩⟩
theorem de_op {op : Operator} {r : R2} {g : Op2} (hr : OpR X (binaryOp op) r) (o : OpD X.K r g) (ha : DE X a fa) (hb : DE X b fb) : DE X (.BinOp a op b pos) (m2 g fa fb) := pew (pe_op hr ha hb) fun _ _ _ h => use2 o h
theorem de_cmp {op : CmpOp} {r : R2} {g : Op2} (hr : OpR X (compareOp op) r) (o : OpD X.K r g) (ha : DE X a fa) (hb : DE X b fb) (hm : behindInMarks op b = false := by rfl) : DE X (.Compare a [op] [b] pos) (m2 g fa fb) := pew (pe_cmpR hr ha hb hm) fun _ _ _ h => use2 o h
theorem de_ix' {r : R2} {g : Op2} (hr : IxR X r) (o : OpD X.K r g) (ha : DE X a fa) (hb : DE X b fb) (hs : PlainIx b := by exact fun _ _ => rfl) : DE X (.Subscript a b pos) (m2 g fa fb) := pew (pe_ix hr ha hb hs) fun _ _ _ h => use2 o h

theorem OpD.or1 {K : PySem.W.Frag} {r r' : R2} {g : Op2} (h : OpD K r g) : OpD K (fun x y H Q => r x y H Q ∨ r' x y H Q) g := fun H m S x y d e d' S' Q a b c f k => .inl (h H m S x y d e d' S' Q a b c f k)

/-! ### tests -/
/-- a value that is a truth value -/
def mB (f : Ex) : Tx := fun ρ S => (f ρ S).bind fun p => match p.1 with | .bl b => some (b, p.2) | _ => none
theorem useB {K : PySem.W.Frag} {σ : L2.St} {H : Hp} {Q : Bool → Hp → Prop} (h : tT K (mB fa) σ H Q) : tE K fa σ H fun x H' => ∃ k, x = .bl k ∧ Q k H' := by
  obtain ⟨ρ, S, m, b, S', E, st, hf, q⟩ := h
  obtain ⟨p, h1, hf⟩ := obind hf
  cases hp : p.1 with
  | bl b' =>
    rw [hp] at hf; cases hf
    exact ⟨ρ, S, m, p.1, p.2, E, st, h1, fun v H1 m1 x1 s1 r1 => ⟨b, by rw [hp] at r1; cases r1; rfl, q H1 m1 x1 s1⟩⟩
  | _ => rw [hp] at hf; cases hf
theorem dt_val (ha : DE X e fa) (he : ∀ whole, isTrue e X.env whole = (do let v ← whole; standAt e.pos; holding [v] (truthy v)) := by intro _; rfl) : DT X e (mB fa) := ptw (pt_val ha he) fun σ H Q h => useB h
theorem dt_cmp {op : CmpOp} {r : R2} {g : Op2} (hr : OpR X (compareOp op) r) (o : OpD X.K r g) (ha : DE X a fa) (hb : DE X b fb) (hm : behindInMarks op b = false := by rfl) : DT X (.Compare a [op] [b] pos) (mB (m2 g fa fb)) :=
  ptw (pt_cmpR hr ha hb hm) fun σ H Q h => use2 o (useB h)
def mNot (f : Tx) : Tx := fun ρ S => (f ρ S).bind fun p => some (!p.1, p.2)
def mAnd (f g : Tx) : Tx := fun ρ S => (f ρ S).bind fun p => if p.1 = true then g ρ p.2 else some (false, p.2)
def mOr (f g : Tx) : Tx := fun ρ S => (f ρ S).bind fun p => if p.1 = true then some (true, p.2) else g ρ p.2
theorem dt_not (ha : DT X a ta) : DT X (.UnaryOp .Not a pos) (mNot ta) := ptw (pt_not ha) fun σ H Q h => by
  obtain ⟨ρ, S, m, b, S', E, st, hf, q⟩ := h
  obtain ⟨p, h1, hf⟩ := obind hf
  cases hf
  exact ⟨ρ, S, m, p.1, p.2, E, st, h1, fun H1 m1 x1 s1 => q H1 m1 x1 s1⟩
theorem dw_and1 (ha : DT X a ta) : DW X (.BoolOp .And [a] pos) ta := pw_and1 ha
theorem dw_or1 (ha : DT X a ta) : DW X (.BoolOp .Or [a] pos) ta := pw_or1 ha
theorem dw_and {rest : List Expr} (ha : DT X a ta) (hb : DW X (.BoolOp .And (b :: rest) pos) tb) : DW X (.BoolOp .And (a :: b :: rest) pos) (mAnd ta tb) := pww (pw_and ha hb) fun σ H Q h => by
  obtain ⟨ρ, S, m, c, S', E, st, hf, q⟩ := h
  obtain ⟨p, h1, hf⟩ := obind hf
  refine ⟨ρ, S, m, p.1, p.2, E, st, h1, fun H1 m1 x1 s1 => ?_⟩
  cases hp : p.1 with
  | true => rw [hp] at hf; exact iteT ⟨ρ, p.2, m1, c, S', E.mono st x1, s1, hf, fun H2 m2 x2 s2 => q H2 m2 (x1.trans x2) s2⟩
  | false => rw [hp] at hf; cases hf; exact iteF (q H1 m1 x1 s1)
theorem dw_or {rest : List Expr} (ha : DT X a ta) (hb : DW X (.BoolOp .Or (b :: rest) pos) tb) : DW X (.BoolOp .Or (a :: b :: rest) pos) (mOr ta tb) := pww (pw_or ha hb) fun σ H Q h => by
  obtain ⟨ρ, S, m, c, S', E, st, hf, q⟩ := h
  obtain ⟨p, h1, hf⟩ := obind hf
  refine ⟨ρ, S, m, p.1, p.2, E, st, h1, fun H1 m1 x1 s1 => ?_⟩
  cases hp : p.1 with
  | false => rw [hp] at hf; exact iteF ⟨ρ, p.2, m1, c, S', E.mono st x1, s1, hf, fun H2 m2 x2 s2 => q H2 m2 (x1.trans x2) s2⟩
  | true => rw [hp] at hf; cases hf; exact iteT (q H1 m1 x1 s1)
theorem dt_w (h : DW X e ta) : DT X e ta := h.pt
/-- and, or, not as values, of truth values -/
def mAndV (f g : Ex) : Ex := fun ρ S => (f ρ S).bind fun p => match p.1 with | .bl true => g ρ p.2 | .bl false => some (.bl false, p.2) | _ => none
def mOrV (f g : Ex) : Ex := fun ρ S => (f ρ S).bind fun p => match p.1 with | .bl false => g ρ p.2 | .bl true => some (.bl true, p.2) | _ => none
def mNotV (f : Ex) : Ex := fun ρ S => (f ρ S).bind fun p => match p.1 with | .bl b => some (.bl (!b), p.2) | _ => none
theorem de_one {op : PySem.BoolOp} (h : DE X a fa) : DE X (.BoolOp op [a] pos) fa := pe_one h
theorem de_and {rest : List Expr} (ha : DE X a fa) (hb : DE X (.BoolOp .And (b :: rest) pos) fb) : DE X (.BoolOp .And (a :: b :: rest) pos) (mAndV fa fb) := pew (pe_and ha hb) fun σ H Q h => by
  obtain ⟨ρ, S, m, d, S', E, st, hf, q⟩ := h
  obtain ⟨p, h1, hf⟩ := obind hf
  refine ⟨ρ, S, m, p.1, p.2, E, st, h1, fun v H1 m1 x1 s1 r1 => ?_⟩
  match hp : p.1 with
  | .bl true => rw [hp] at hf r1; cases r1; exact ⟨true, rfl, iteT ⟨ρ, p.2, m1, d, S', E.mono st x1, s1, hf, fun w H2 m2 x2 s2 r2 => q w H2 m2 (x1.trans x2) s2 r2⟩⟩
  | .bl false => rw [hp] at hf r1; cases r1; cases hf; exact ⟨false, rfl, iteF (q _ H1 m1 x1 s1 (.bl false))⟩
  | .non => rw [hp] at hf; cases hf
  | .int _ => rw [hp] at hf; cases hf
  | .str _ => rw [hp] at hf; cases hf
  | .tup _ => rw [hp] at hf; cases hf
  | .rol _ => rw [hp] at hf; cases hf
  | .rod _ _ => rw [hp] at hf; cases hf
  | .loc _ => rw [hp] at hf; cases hf
theorem de_or {rest : List Expr} (ha : DE X a fa) (hb : DE X (.BoolOp .Or (b :: rest) pos) fb) : DE X (.BoolOp .Or (a :: b :: rest) pos) (mOrV fa fb) := pew (pe_or ha hb) fun σ H Q h => by
  obtain ⟨ρ, S, m, d, S', E, st, hf, q⟩ := h
  obtain ⟨p, h1, hf⟩ := obind hf
  refine ⟨ρ, S, m, p.1, p.2, E, st, h1, fun v H1 m1 x1 s1 r1 => ?_⟩
  match hp : p.1 with
  | .bl false => rw [hp] at hf r1; cases r1; exact ⟨false, rfl, iteF ⟨ρ, p.2, m1, d, S', E.mono st x1, s1, hf, fun w H2 m2 x2 s2 r2 => q w H2 m2 (x1.trans x2) s2 r2⟩⟩
  | .bl true => rw [hp] at hf r1; cases r1; cases hf; exact ⟨true, rfl, iteT (q _ H1 m1 x1 s1 (.bl true))⟩
  | .non => rw [hp] at hf; cases hf
  | .int _ => rw [hp] at hf; cases hf
  | .str _ => rw [hp] at hf; cases hf
  | .tup _ => rw [hp] at hf; cases hf
  | .rol _ => rw [hp] at hf; cases hf
  | .rod _ _ => rw [hp] at hf; cases hf
  | .loc _ => rw [hp] at hf; cases hf
theorem de_not (ha : DE X a fa) : DE X (.UnaryOp .Not a pos) (mNotV fa) := pew (pe_not ha) fun σ H Q h => by
  obtain ⟨ρ, S, m, d, S', E, st, hf, q⟩ := h
  obtain ⟨p, h1, hf⟩ := obind hf
  refine ⟨ρ, S, m, p.1, p.2, E, st, h1, fun v H1 m1 x1 s1 r1 => ?_⟩
  match hp : p.1 with
  | .bl c => rw [hp] at hf r1; cases r1; cases hf; exact ⟨c, rfl, q _ H1 m1 x1 s1 (.bl _)⟩
  | .non => rw [hp] at hf; cases hf
  | .int _ => rw [hp] at hf; cases hf
  | .str _ => rw [hp] at hf; cases hf
  | .tup _ => rw [hp] at hf; cases hf
  | .rol _ => rw [hp] at hf; cases hf
  | .rod _ _ => rw [hp] at hf; cases hf
  | .loc _ => rw [hp] at hf; cases hf
def mIf (t : Tx) (f g : Ex) : Ex := fun ρ S => (t ρ S).bind fun p => if p.1 = true then f ρ p.2 else g ρ p.2
theorem de_if {c : Expr} (hc : DT X c ta) (ha : DE X a fa) (hb : DE X b fb) : DE X (.IfExp c a b pos) (mIf ta fa fb) := pew (pe_ifExp hc ha hb) fun σ H Q h => by
  obtain ⟨ρ, S, m, d, S', E, st, hf, q⟩ := h
  obtain ⟨p, h1, hf⟩ := obind hf
  refine ⟨ρ, S, m, p.1, p.2, E, st, h1, fun H1 m1 x1 s1 => ?_⟩
  cases hp : p.1 with
  | true => rw [hp] at hf; exact iteT ⟨ρ, p.2, m1, d, S', E.mono st x1, s1, hf, fun w H2 m2 x2 s2 r2 => q w H2 m2 (x1.trans x2) s2 r2⟩
  | false => rw [hp] at hf; exact iteF ⟨ρ, p.2, m1, d, S', E.mono st x1, s1, hf, fun w H2 m2 x2 s2 r2 => q w H2 m2 (x1.trans x2) s2 r2⟩
end
end DD

/-! Operations upon data. -/
namespace DD
open PySem PySem.Spec PyProof.Rows L2

/-! ### as nested data -/
def mapO {α β : Type} (f : α → Option β) : List α → Option (List β)
  | [] => some []
  | x :: xs => (f x).bind fun y => (mapO f xs).bind fun ys => some (y :: ys)
def toPy : Nat → Sto → D → Option PyData
  | 0, _, .non => some .none
  | 0, _, .bl b => some (.bool b)
  | 0, _, .int i => some (.int i)
  | 0, _, .str x => some (.str x)
  | 0, _, _ => none
  | _ + 1, _, .non => some .none
  | _ + 1, _, .bl b => some (.bool b)
  | _ + 1, _, .int i => some (.int i)
  | _ + 1, _, .str x => some (.str x)
  | n + 1, S, .tup ds => (mapO (toPy n S) ds).bind fun ps => some (.tuple ps)
  | n + 1, S, .rol ds => (mapO (toPy n S) ds).bind fun ps => some (.list ps)
  | n + 1, S, .loc k => match S[k]? with
    | some (.lst ds) => (mapO (toPy n S) ds).bind fun ps => some (.list ps)
    | _ => none
  | _ + 1, _, .rod _ _ => none

section
variable {K : PySem.W.Frag} {H : Hp} {m : List Addr} {S : Sto}
theorem mapO_dp {f : D → Option PyData} (hf : ∀ d v p, Rep K H m d v → f d = some p → Dp K H v p) : ∀ {ds : List D} {vs : List V} {ps : List PyData}, RepL K H m ds vs → mapO f ds = some ps → DpAll K H vs ps
  | _, _, _, .nil, h => by cases h; exact .nil
  | _, _, _, .cons r t, h => by
    obtain ⟨y, h1, h⟩ := obind h
    obtain ⟨ys, h2, h⟩ := obind h
    cases h
    exact .cons (hf _ _ _ r h1) (mapO_dp hf t h2)
theorem StR.lst (s : StR K H m S) {n : Nat} {v : V} {ds : List D} (r : Rep K H m (.loc n) v) (h : S[n]? = some (.lst ds)) : ∃ a vs, v = .ref a ∧ m[n]? = some a ∧ H a = some (.lst vs) ∧ RepL K H m ds vs := by
  cases r with
  | loc hm =>
    obtain ⟨vs, e, q⟩ := s.ok n _ _ h hm
    exact ⟨_, vs, rfl, hm, e, q⟩
theorem toPy_dp (s : StR K H m S) : ∀ (n : Nat) (d : D) (v : V) (p : PyData), Rep K H m d v → toPy n S d = some p → Dp K H v p := by
  intro n
  induction n with
  | zero =>
    intro d v p r h
    cases d with
    | non => cases h; cases r; exact .non
    | bl b => cases h; cases r; exact .bl b
    | int b => cases h; cases r; exact .int b
    | str b => cases h; cases r; exact .str b
    | tup ds => cases h
    | rol ds => cases h
    | rod _ _ => cases h
    | loc k => cases h
  | succ n ih =>
    intro d v p r h
    cases d with
    | non => cases h; cases r; exact .non
    | bl b => cases h; cases r; exact .bl b
    | int b => cases h; cases r; exact .int b
    | str b => cases h; cases r; exact .str b
    | tup ds =>
      obtain ⟨ps, h1, h⟩ := obind h
      cases h
      cases r with
      | tup hs rs => exact .tup hs (mapO_dp ih rs h1)
    | rol ds =>
      obtain ⟨ps, h1, h⟩ := obind h
      cases h
      cases r with
      | rol hs rs => exact .lst hs.sq (mapO_dp ih rs h1)
    | rod _ _ => cases h
    | loc k =>
      simp only [toPy] at h
      cases hk : S[k]? with
      | none => rw [hk] at h; cases h
      | some c =>
        rw [hk] at h
        cases c with
        | dic kvs => cases h
        | lst ds =>
          obtain ⟨ps, h1, h⟩ := obind h
          cases h
          obtain ⟨a, vs, rfl, _, e, rs⟩ := s.lst r hk
          exact .lst (SqL.of e) (mapO_dp ih rs h1)

/-! ### sequences -/
def seqOf (S : Sto) : D → Option (List D)
  | .tup ds => some ds
  | .rol ds => some ds
  | .loc k => match S[k]? with | some (.lst ds) => some ds | _ => none
  | _ => none
theorem seqOf_rep (s : StR K H m S) {d : D} {v : V} {ds : List D} (r : Rep K H m d v) (h : seqOf S d = some ds) : ∃ a vs, v = .ref a ∧ (SqL K H a vs ∨ SqT K H a vs) ∧ RepL K H m ds vs := by
  cases d with
  | tup es => cases h; cases r with | tup hs rs => exact ⟨_, _, rfl, .inr hs, rs⟩
  | rol es => cases h; cases r with | rol hs rs => exact ⟨_, _, rfl, .inl hs.sq, rs⟩
  | loc k =>
    simp only [seqOf] at h
    cases hk : S[k]? with
    | none => rw [hk] at h; cases h
    | some c =>
      rw [hk] at h
      cases c with
      | dic kvs => cases h
      | lst es =>
        cases h
        obtain ⟨a, vs, rfl, _, e, rs⟩ := s.lst r hk
        exact ⟨a, vs, rfl, .inl (SqL.of e), rs⟩
  | _ => cases h
end

/-! ### arithmetic -/
def addD : Op2
  | .int i, .int j, S => some (.int (i + j), S)
  | .str a, .str b, S => if a.length + b.length ≤ sizeLine then some (.str (a ++ b), S) else none
  | .tup xs, .tup ys, S => if xs.length + ys.length ≤ sizeLine then some (.tup (xs ++ ys), S) else none
  | .loc a, .loc b, S => match S[a]?, S[b]? with
    | some (.lst xs), some (.lst ys) => if xs.length + ys.length ≤ sizeLine then some (.loc S.length, S ++ [.lst (xs ++ ys)]) else none
    | _, _ => none
  | _, _, _ => none
def rAddD (K : PySem.W.Frag) : R2 := fun x y H Q => (rI0 (fun i j => .int (i + j))) x y H Q ∨ (∃ i j, x = .str i ∧ y = .str j ∧ i.length + j.length ≤ sizeLine ∧ Q (.str (i ++ j)) H) ∨ rCatA K x y H Q ∨ rCat x y H Q
theorem or_add {X : Cx} : OpR X (binaryOp .Add) (rAddD X.K) := op_add.or (op_add_str.or (op_catA.or op_cat))
theorem od_add {K : PySem.W.Frag} : OpD K (rAddD K) addD := by
  intro H m S x y d e d' S' Q s rx ry h k
  match d, e, h with
  | .int i, .int j, h => cases h; cases rx; cases ry; exact .inl ⟨i, j, rfl, rfl, k _ H m (Ext.refl H m) s (.int _)⟩
  | .str a, .str b, h =>
    simp only [addD] at h
    by_cases hl : a.length + b.length ≤ sizeLine
    · rw [if_pos hl] at h; cases h; cases rx; cases ry; exact .inr (.inl ⟨a, b, rfl, rfl, hl, k _ H m (Ext.refl H m) s (.str _)⟩)
    · rw [if_neg hl] at h; cases h
  | .tup xs, .tup ys, h =>
    simp only [addD] at h
    by_cases hl : xs.length + ys.length ≤ sizeLine
    · rw [if_pos hl] at h; cases h
      cases rx with
      | tup h1 r1 =>
        cases ry with
        | tup h2 r2 =>
          refine .inr (.inr (.inl ⟨_, _, _, _, rfl, rfl, h1, h2, by rw [← r1.length, ← r2.length]; exact hl, fun e => ?_, fun e1 e => ?_, fun _ _ p hp => ?_⟩))
          · subst e; cases r1; exact k _ H m (Ext.refl H m) s (.tup h2 r2)
          · subst e; cases r2; rw [List.append_nil] at k; exact k _ H m (Ext.refl H m) s (.tup h1 r1)
          · exact k _ _ m (Ext.new1 hp) (s.new1 hp) (.tup (SqT.of upd_same) ((r1.app r2).mono s (Ext.new1 hp)))
    · rw [if_neg hl] at h; cases h
  | .loc a, .loc b, h =>
    simp only [addD] at h
    cases ha : S[a]? with
    | none => rw [ha] at h; cases h
    | some ca =>
      cases ca with
      | dic _ => rw [ha] at h; cases h
      | lst xs =>
        cases hb : S[b]? with
        | none => rw [ha, hb] at h; cases h
        | some cb =>
          cases cb with
          | dic _ => rw [ha, hb] at h; cases h
          | lst ys =>
            rw [ha, hb] at h
            simp only at h
            by_cases hl : xs.length + ys.length ≤ sizeLine
            · rw [if_pos hl] at h; cases h
              obtain ⟨a1, vs, rfl, _, e1, r1⟩ := s.lst rx ha
              obtain ⟨b1, us, rfl, _, e2, r2⟩ := s.lst ry hb
              refine .inr (.inr (.inr ⟨_, _, _, _, rfl, rfl, e1, e2, by rw [← r1.length, ← r2.length]; exact hl, fun p hp => ?_⟩))
              obtain ⟨q1, q2, q3⟩ := newL s (r1.app r2) hp
              exact k _ _ _ q1 q2 q3
            · rw [if_neg hl] at h; cases h
/-- two ints, under a condition -/
def intD (C : Int → Int → Prop) [∀ i j, Decidable (C i j)] (g : Int → Int → D) : Op2
  | .int i, .int j, S => if C i j then some (g i j, S) else none
  | _, _, _ => none
theorem od_int {K : PySem.W.Frag} {C C' : Int → Int → Prop} [∀ i j, Decidable (C i j)] {g : Int → Int → D} {g' : Int → Int → V} (hC : ∀ i j, C i j → C' i j) (hg : ∀ i j H m, Rep K H m (g i j) (g' i j)) : OpD K (rI C' g') (intD C g) := by
  intro H m S x y d e d' S' Q s rx ry h k
  match d, e, h with
  | .int i, .int j, h =>
    simp only [intD] at h
    by_cases hc : C i j
    · rw [if_pos hc] at h; cases h; cases rx; cases ry; exact ⟨i, j, rfl, rfl, hC i j hc, k _ H m (Ext.refl H m) s (hg i j H m)⟩
    · rw [if_neg hc] at h; cases h
def int0 (g : Int → Int → D) : Op2
  | .int i, .int j, S => some (g i j, S)
  | _, _, _ => none
theorem od_int0 {K : PySem.W.Frag} {g : Int → Int → D} {g' : Int → Int → V} (hg : ∀ i j H m, Rep K H m (g i j) (g' i j)) : OpD K (rI0 g') (int0 g) := by
  intro H m S x y d e d' S' Q s rx ry h k
  match d, e, h with
  | .int i, .int j, h => cases h; cases rx; cases ry; exact ⟨i, j, rfl, rfl, k _ H m (Ext.refl H m) s (hg i j H m)⟩
abbrev subD : Op2 := int0 fun i j => .int (i - j)
abbrev mulD : Op2 := intD (fun i j => (-(2 ^ 64) < i ∧ i < 2 ^ 64) ∨ (-(2 ^ 64) < j ∧ j < 2 ^ 64)) fun i j => .int (i * j)
abbrev fdivD : Op2 := intD (fun _ j => j ≠ 0 ∧ j.natAbs < 1073741824) fun i j => .int (i.fdiv j)
abbrev modD : Op2 := intD (fun _ j => j ≠ 0) fun i j => .int (i.fmod j)
abbrev powD : Op2 := intD (fun i j => 0 ≤ j ∧ j ≤ 1000000 ∧ i.natAbs < 2 ^ 64) fun i j => .int (i ^ j.toNat)
section
variable {X : Cx} {e a b c : Expr} {es : List Expr} {fa fb fc : Ex} {ga : As} {ta tb : Tx} {pos : Pos}
theorem de_add (ha : DE X a fa) (hb : DE X b fb) : DE X (.BinOp a .Add b pos) (m2 addD fa fb) := de_op or_add od_add ha hb
theorem de_sub (ha : DE X a fa) (hb : DE X b fb) : DE X (.BinOp a .Sub b pos) (m2 subD fa fb) := de_op op_sub (od_int0 fun _ _ _ _ => .int _) ha hb
theorem de_mul (ha : DE X a fa) (hb : DE X b fb) : DE X (.BinOp a .Mult b pos) (m2 mulD fa fb) := de_op op_mul (od_int (fun _ _ h => h) fun _ _ _ _ => .int _) ha hb
theorem de_fdiv (ha : DE X a fa) (hb : DE X b fb) : DE X (.BinOp a .FloorDiv b pos) (m2 fdivD fa fb) := de_op op_fdivN (od_int (fun _ _ h => h) fun _ _ _ _ => .int _) ha hb
theorem de_mod (ha : DE X a fa) (hb : DE X b fb) : DE X (.BinOp a .Mod b pos) (m2 modD fa fb) := de_op op_modN (od_int (fun _ _ h => h) fun _ _ _ _ => .int _) ha hb
theorem de_pow (ha : DE X a fa) (hb : DE X b fb) : DE X (.BinOp a .Pow b pos) (m2 powD fa fb) := de_op op_pow (od_int (fun _ _ h => h) fun _ _ _ _ => .int _) ha hb
def mNeg (f : Ex) : Ex := fun ρ S => (f ρ S).bind fun p => match p.1 with | .int i => some (.int (-i), p.2) | _ => none
theorem de_neg (ha : DE X a fa) : DE X (.UnaryOp .USub a pos) (mNeg fa) := pew (pe_un un_neg ha) fun σ H Q h => by
  obtain ⟨ρ, S, m, d, S', E, st, hf, q⟩ := h
  obtain ⟨p, h1, hf⟩ := obind hf
  refine ⟨ρ, S, m, p.1, p.2, E, st, h1, fun v H1 m1 x1 s1 r1 => ?_⟩
  cases hp : p.1 with
  | int c => rw [hp] at hf r1; cases r1; cases hf; exact ⟨c, rfl, q _ H1 m1 x1 s1 (.int _)⟩
  | _ => rw [hp] at hf; cases hf

/-! ### comparisons -/
abbrev cmpI (p : Int → Int → Bool) : Op2 := int0 fun i j => .bl (p i j)
abbrev ltD : Op2 := cmpI fun i j => decide (i < j)
abbrev leD : Op2 := cmpI fun i j => decide (i ≤ j)
abbrev gtD : Op2 := cmpI fun i j => decide (j < i)
abbrev geD : Op2 := cmpI fun i j => decide (j ≤ i)
theorem od_cmp {K : PySem.W.Frag} {p : Int → Int → Bool} : OpD K (rI0 fun i j => .bl (p i j)) (cmpI p) := od_int0 fun _ _ _ _ => .bl _
theorem de_lt (ha : DE X a fa) (hb : DE X b fb) : DE X (.Compare a [.Lt] [b] pos) (m2 ltD fa fb) := de_cmp op_lt od_cmp ha hb (nomark _)
theorem de_le (ha : DE X a fa) (hb : DE X b fb) : DE X (.Compare a [.LtE] [b] pos) (m2 leD fa fb) := de_cmp op_le od_cmp ha hb (nomark _)
theorem de_gt (ha : DE X a fa) (hb : DE X b fb) : DE X (.Compare a [.Gt] [b] pos) (m2 gtD fa fb) := de_cmp op_gt od_cmp ha hb (nomark _)
theorem de_ge (ha : DE X a fa) (hb : DE X b fb) : DE X (.Compare a [.GtE] [b] pos) (m2 geD fa fb) := de_cmp op_ge od_cmp ha hb (nomark _)
theorem dt_lt (ha : DE X a fa) (hb : DE X b fb) : DT X (.Compare a [.Lt] [b] pos) (mB (m2 ltD fa fb)) := dt_cmp op_lt od_cmp ha hb (nomark _)
theorem dt_le (ha : DE X a fa) (hb : DE X b fb) : DT X (.Compare a [.LtE] [b] pos) (mB (m2 leD fa fb)) := dt_cmp op_le od_cmp ha hb (nomark _)
theorem dt_gt (ha : DE X a fa) (hb : DE X b fb) : DT X (.Compare a [.Gt] [b] pos) (mB (m2 gtD fa fb)) := dt_cmp op_gt od_cmp ha hb (nomark _)
theorem dt_ge (ha : DE X a fa) (hb : DE X b fb) : DT X (.Compare a [.GtE] [b] pos) (mB (m2 geD fa fb)) := dt_cmp op_ge od_cmp ha hb (nomark _)
end

/-! ### equality -/
def eqB (S : Sto) : D → D → Option Bool
  | .int i, .int j => some (decide (i = j))
  | .str x, .str y => some (decide (x = y))
  | .bl x, .bl y => some (decide (x = y))
  | .non, .non => some true
  | d, e => (toPy 64 S d).bind fun p => (toPy 64 S e).bind fun q => if SeqAt.shaped p = true ∧ SeqAt.shaped q = true then some (PyData.eqv p q) else none
def eqD : Op2 := fun d e S => (eqB S d e).bind fun b => some (.bl b, S)
def neD : Op2 := fun d e S => (eqB S d e).bind fun b => some (.bl (!b), S)
def rEqA (K : PySem.W.Frag) : R2 := fun x y H Q => rEq x y H Q ∨ rEqD K x y H Q
def rNeA (K : PySem.W.Frag) : R2 := fun x y H Q => rNe x y H Q ∨ rNeD K x y H Q
theorem eqB_rep {K : PySem.W.Frag} {H : Hp} {m : List Addr} {S : Sto} {x y : V} {d e : D} {b : Bool} (s : StR K H m S) (rx : Rep K H m d x) (ry : Rep K H m e y) (h : eqB S d e = some b) :
    (scal x y = true ∧ b = decide (x = y)) ∨ ∃ p q, Dp K H x p ∧ Dp K H y q ∧ SeqAt.shaped p = true ∧ SeqAt.shaped q = true ∧ b = PyData.eqv p q := by
  unfold eqB at h
  split at h
  · cases h; cases rx; cases ry
    exact .inl ⟨rfl, by simp⟩
  · cases h; cases rx; cases ry
    exact .inl ⟨rfl, by simp⟩
  · cases h; cases rx; cases ry
    exact .inl ⟨rfl, by simp⟩
  · cases h; cases rx; cases ry
    exact .inl ⟨rfl, by simp⟩
  · obtain ⟨p, h1, h⟩ := obind h
    obtain ⟨q, h2, h⟩ := obind h
    by_cases hs : SeqAt.shaped p = true ∧ SeqAt.shaped q = true
    · rw [if_pos hs] at h; cases h
      exact .inr ⟨p, q, toPy_dp s _ _ _ _ rx h1, toPy_dp s _ _ _ _ ry h2, hs.1, hs.2, rfl⟩
    · rw [if_neg hs] at h; cases h
theorem od_eq {K : PySem.W.Frag} : OpD K (rEqA K) eqD := by
  intro H m S x y d e d' S' Q s rx ry h k
  obtain ⟨b, h1, h⟩ := obind h
  cases h
  have fin := k (.bl b) H m (Ext.refl H m) s (.bl b)
  rcases eqB_rep s rx ry h1 with ⟨q, rfl⟩ | ⟨p, q, d1, d2, s1, s2, rfl⟩
  · exact .inl ⟨q, fin⟩
  · exact .inr ⟨p, q, d1, d2, s1, s2, fin⟩
theorem od_ne {K : PySem.W.Frag} : OpD K (rNeA K) neD := by
  intro H m S x y d e d' S' Q s rx ry h k
  obtain ⟨b, h1, h⟩ := obind h
  cases h
  have fin := k (.bl (!b)) H m (Ext.refl H m) s (.bl _)
  rcases eqB_rep s rx ry h1 with ⟨q, rfl⟩ | ⟨p, q, d1, d2, s1, s2, rfl⟩
  · exact .inl ⟨q, fin⟩
  · exact .inr ⟨p, q, d1, d2, s1, s2, fin⟩
section
variable {X : Cx} {e a b c : Expr} {es : List Expr} {fa fb fc : Ex} {ga : As} {ta tb : Tx} {pos : Pos} {k : Nat}
theorem RG.hu (hr : RG k X) : X.A.units + 64 < cLine := hr.room.units
theorem RG.hu1 (hr : RG k X) : X.A.units + 1 < cLine := by have := hr.room.un; omega
theorem RG.hu65 (hr : RG k X) : X.A.units + 65 < cLine := by have := hr.room.un; omega
theorem or_eq (hr : RG k X) : OpR X (compareOp .Eq) (rEqA X.K) := op_eq.or (op_eqD hr.hu)
theorem or_ne (hr : RG k X) : OpR X (compareOp .NotEq) (rNeA X.K) := op_ne.or (op_neD hr.hu)
theorem de_eq (hr : RG k X) (ha : DE X a fa) (hb : DE X b fb) : DE X (.Compare a [.Eq] [b] pos) (m2 eqD fa fb) := de_cmp (or_eq hr) od_eq ha hb (nomark _)
theorem de_ne (hr : RG k X) (ha : DE X a fa) (hb : DE X b fb) : DE X (.Compare a [.NotEq] [b] pos) (m2 neD fa fb) := de_cmp (or_ne hr) od_ne ha hb (nomark _)
theorem dt_eq (hr : RG k X) (ha : DE X a fa) (hb : DE X b fb) : DT X (.Compare a [.Eq] [b] pos) (mB (m2 eqD fa fb)) := dt_cmp (or_eq hr) od_eq ha hb (nomark _)
theorem dt_ne (hr : RG k X) (ha : DE X a fa) (hb : DE X b fb) : DT X (.Compare a [.NotEq] [b] pos) (mB (m2 neD fa fb)) := dt_cmp (or_ne hr) od_ne ha hb (nomark _)

/-! ### is None -/
def isND : Op2 := fun d e S => match e with | .non => some (.bl (match d with | .non => true | _ => false), S) | _ => none
def notND : Op2 := fun d e S => match e with | .non => some (.bl (match d with | .non => false | _ => true), S) | _ => none
theorem od_isN {K : PySem.W.Frag} : OpD K (fun x y H Q => y = .non ∧ Q (.bl (decide (x = .non))) H) isND := by
  intro H m S x y d e d' S' Q s rx ry h k
  cases e with
  | non =>
    cases ry
    cases d <;> cases rx <;> cases h <;> exact ⟨rfl, k _ H m (Ext.refl H m) s (.bl _)⟩
  | _ => cases h
theorem od_notN {K : PySem.W.Frag} : OpD K (fun x y H Q => y = .non ∧ Q (.bl (!decide (x = .non))) H) notND := by
  intro H m S x y d e d' S' Q s rx ry h k
  cases e with
  | non =>
    cases ry
    cases d <;> cases rx <;> cases h <;> exact ⟨rfl, k _ H m (Ext.refl H m) s (.bl _)⟩
  | _ => cases h
theorem de_isN (ha : DE X a fa) (hb : DE X b fb) : DE X (.Compare a [.Is] [b] pos) (m2 isND fa fb) := de_cmp op_isN od_isN ha hb (nomark _)
theorem de_notN (ha : DE X a fa) (hb : DE X b fb) : DE X (.Compare a [.IsNot] [b] pos) (m2 notND fa fb) := de_cmp op_notN od_notN ha hb (nomark _)
theorem dt_isN (ha : DE X a fa) (hb : DE X b fb) : DT X (.Compare a [.Is] [b] pos) (mB (m2 isND fa fb)) := dt_cmp op_isN od_isN ha hb (nomark _)
theorem dt_notN (ha : DE X a fa) (hb : DE X b fb) : DT X (.Compare a [.IsNot] [b] pos) (mB (m2 notND fa fb)) := dt_cmp op_notN od_notN ha hb (nomark _)
end

/-! ### in -/
def flatD : D → Bool
  | .non | .bl _ | .int _ | .str _ => true
  | _ => false
def eqF : D → D → Bool
  | .non, .non => true
  | .bl a, .bl b => a == b
  | .bl a, .int b => (if a then 1 else 0) == b
  | .int a, .bl b => a == (if b then 1 else 0)
  | .int a, .int b => a == b
  | .str a, .str b => a == b
  | _, _ => false
def inB (S : Sto) (d e : D) : Option Bool := (seqOf S e).bind fun ds =>
  if flatD d = true ∧ ds.all flatD = true then some (ds.any fun y => eqF y d)
  else match e with
    | .tup _ => none
    | _ => (toPy 64 S d).bind fun p => (toPy 64 S e).bind fun q => if SeqAt.shaped p = true ∧ SeqAt.shaped q = true then (match q with | .list qs => some (qs.any fun z => PyData.eqv z p) | _ => none) else none
section
variable {K : PySem.W.Frag} {H : Hp} {m : List Addr} {S : Sto}
theorem flatD_rep {d : D} {v : V} (r : Rep K H m d v) (h : flatD d = true) : flatV v = true := by
  cases r <;> first | rfl | cases h
theorem eqF_rep {d e : D} {v u : V} (r : Rep K H m d v) (q : Rep K H m e u) (h : flatD d = true) (h' : flatD e = true) : eqF d e = eqV v u := by
  cases r <;> cases q <;> first | rfl | cases h | cases h'
theorem flatL_rep : ∀ {ds : List D} {vs : List V}, RepL K H m ds vs → ds.all flatD = true → vs.all flatV = true
  | _, _, .nil, _ => rfl
  | _, _, .cons r t, h => by
    rw [List.all_cons, Bool.and_eq_true] at h ⊢
    exact ⟨flatD_rep r h.1, flatL_rep t h.2⟩
theorem anyF_rep {d : D} {v : V} (q : Rep K H m d v) (hd : flatD d = true) : ∀ {ds : List D} {vs : List V}, RepL K H m ds vs → ds.all flatD = true → (ds.any fun y => eqF y d) = inV v vs
  | _, _, .nil, _ => rfl
  | _, _, .cons r t, h => by
    rw [List.all_cons, Bool.and_eq_true] at h
    show (eqF _ d || List.any _ fun y => eqF y d) = (eqV _ v || inV v _)
    rw [eqF_rep r q h.1 hd, anyF_rep q hd t h.2]
theorem inB_rep {x y : V} {d e : D} {b : Bool} (s : StR K H m S) (rx : Rep K H m d x) (ry : Rep K H m e y) (h : inB S d e = some b) :
    (∃ p xs, y = .ref p ∧ (SqL K H p xs ∨ SqT K H p xs) ∧ flatV x = true ∧ xs.all flatV = true ∧ b = inV x xs) ∨
      ∃ p qs, Dp K H x p ∧ Dp K H y (.list qs) ∧ SeqAt.shaped p = true ∧ SeqAt.shaped (.list qs) = true ∧ b = qs.any fun z => PyData.eqv z p := by
  unfold inB at h
  obtain ⟨ds, h1, h⟩ := obind h
  obtain ⟨a, vs, rfl, hs, rs⟩ := seqOf_rep s ry h1
  by_cases hf : flatD d = true ∧ ds.all flatD = true
  · rw [if_pos hf] at h; cases h
    exact .inl ⟨a, vs, rfl, hs, flatD_rep rx hf.1, flatL_rep rs hf.2, anyF_rep rx hf.1 rs hf.2⟩
  · rw [if_neg hf] at h
    have h' : ((toPy 64 S d).bind fun p => (toPy 64 S e).bind fun q => if SeqAt.shaped p = true ∧ SeqAt.shaped q = true then (match q with | .list qs => some (qs.any fun z => PyData.eqv z p) | _ => none) else none) = some b := by
      cases e <;> first | exact h | cases h
    obtain ⟨p, h2, h'⟩ := obind h'
    obtain ⟨q, h3, h'⟩ := obind h'
    by_cases hq : SeqAt.shaped p = true ∧ SeqAt.shaped q = true
    · rw [if_pos hq] at h'
      cases q with
      | list qs => cases h'; exact .inr ⟨p, qs, toPy_dp s _ _ _ _ rx h2, toPy_dp s _ _ _ _ ry h3, hq.1, hq.2, rfl⟩
      | _ => cases h'
    · rw [if_neg hq] at h'; cases h'
end
def inD : Op2 := fun d e S => (inB S d e).bind fun b => some (.bl b, S)
def notInD : Op2 := fun d e S => (inB S d e).bind fun b => some (.bl (!b), S)
theorem od_in {K : PySem.W.Frag} : OpD K (fun x y H Q => rIn K false x y H Q ∨ rInD K x y H Q) inD := by
  intro H m S x y d e d' S' Q s rx ry h k
  obtain ⟨b, h1, h⟩ := obind h
  cases h
  have fin := k (.bl b) H m (Ext.refl H m) s (.bl b)
  rcases inB_rep s rx ry h1 with ⟨p, xs, e, hs, f1, f2, rfl⟩ | ⟨p, qs, d1, d2, s1, s2, rfl⟩
  · exact .inl ⟨p, xs, e, hs, f1, f2, fin⟩
  · exact .inr ⟨p, qs, d1, d2, s1, s2, fin⟩
theorem od_notIn {K : PySem.W.Frag} : OpD K (fun x y H Q => rIn K true x y H Q ∨ rNotInD K x y H Q) notInD := by
  intro H m S x y d e d' S' Q s rx ry h k
  obtain ⟨b, h1, h⟩ := obind h
  cases h
  have fin := k (.bl (!b)) H m (Ext.refl H m) s (.bl _)
  rcases inB_rep s rx ry h1 with ⟨p, xs, e, hs, f1, f2, rfl⟩ | ⟨p, qs, d1, d2, s1, s2, rfl⟩
  · exact .inl ⟨p, xs, e, hs, f1, f2, fin⟩
  · exact .inr ⟨p, qs, d1, d2, s1, s2, fin⟩
section
variable {X : Cx} {e a b c : Expr} {es : List Expr} {fa fb fc : Ex} {ga : As} {ta tb : Tx} {pos : Pos} {k : Nat}
theorem de_in (hr : RG k X) (ha : DE X a fa) (hb : DE X b fb) (hm : behindInMarks .In b = false := by rfl) : DE X (.Compare a [.In] [b] pos) (m2 inD fa fb) := de_cmp (op_in_seq.or (op_inD hr.hu65)) od_in ha hb hm
theorem de_notIn (hr : RG k X) (ha : DE X a fa) (hb : DE X b fb) (hm : behindInMarks .NotIn b = false := by rfl) : DE X (.Compare a [.NotIn] [b] pos) (m2 notInD fa fb) := de_cmp (op_notIn_seq.or (op_notInD hr.hu65)) od_notIn ha hb hm
theorem dt_in (hr : RG k X) (ha : DE X a fa) (hb : DE X b fb) (hm : behindInMarks .In b = false := by rfl) : DT X (.Compare a [.In] [b] pos) (mB (m2 inD fa fb)) := dt_cmp (op_in_seq.or (op_inD hr.hu65)) od_in ha hb hm
theorem dt_notIn (hr : RG k X) (ha : DE X a fa) (hb : DE X b fb) (hm : behindInMarks .NotIn b = false := by rfl) : DT X (.Compare a [.NotIn] [b] pos) (mB (m2 notInD fa fb)) := dt_cmp (op_notIn_seq.or (op_notInD hr.hu65)) od_notIn ha hb hm
end
end DD

/-! Items, slices, dicts, methods, built-ins upon data. -/
namespace DD
open PySem PySem.Spec PyProof.Rows L2

section
variable {K : PySem.W.Frag} {H : Hp} {m : List Addr} {S : Sto}
theorem atI_rep {ds : List D} {vs : List V} {i : Int} {d : D} (r : RepL K H m ds vs) (h : atI ds i = some d) : ∃ v, atI vs i = some v ∧ Rep K H m d v := by
  unfold atI at h ⊢
  obtain ⟨j, h1, h2⟩ := obind h
  obtain ⟨v, h3, h4⟩ := r.get h2
  exact ⟨v, by rw [← r.length, h1]; exact h3, h4⟩

/-! ### dicts -/
def keyOf : D → Option Key
  | .int i => some (.inl i)
  | .str x => some (.inr x)
  | _ => none
def getK (kvs : List (Key × D)) (k : Key) : Option D := (kvs.find? fun kv => decide (kv.1 = k)).map (·.2)
def putD (kvs : List (Key × D)) (k : Key) (d : D) : List (Key × D) :=
  if (kvs.any fun kv => decide (kv.1 = k)) = true then kvs.map (fun kv => if kv.1 = k then (kv.1, d) else kv) else kvs ++ [(k, d)]
theorem keyOf_rep {d : D} {v : V} {k : Key} (r : Rep K H m d v) (h : keyOf d = some k) : v = kV k := by
  cases d with
  | int i => cases h; cases r; rfl
  | str x => cases h; cases r; rfl
  | _ => cases h
abbrev KVR (K : PySem.W.Frag) (H : Hp) (m : List Addr) : List (Key × D) → List (Key × V) → Prop := Paired (fun (p : Key × D) (q : Key × V) => p.1 = q.1 ∧ Rep K H m p.2 q.2)
theorem getK_rep {k : Key} : ∀ {kvs : List (Key × D)} {ks : List (Key × V)}, KVR K H m kvs ks → (∀ d, getK kvs k = some d → ∃ v, valV ks k = some v ∧ Rep K H m d v) ∧ (getK kvs k = none → valV ks k = none)
  | _, _, .nil => ⟨(fun d h => by cases h), fun _ => rfl⟩
  | (k1, d1) :: r1, (k2, v2) :: r2, .cons ⟨e, r⟩ t => by
    have e' : k1 = k2 := e
    subst e'
    by_cases hk : k1 = k
    · have a1 : getK ((k1, d1) :: r1) k = some d1 := by unfold getK; rw [List.find?_cons_of_pos (by simp [hk])]; rfl
      have a2 : valV ((k1, v2) :: r2) k = some v2 := valV_pos hk
      rw [a1, a2]
      exact ⟨(fun d h => by cases h; exact ⟨v2, rfl, r⟩), (fun h => by cases h)⟩
    · have a1 : getK ((k1, d1) :: r1) k = getK r1 k := by unfold getK; rw [List.find?_cons_of_neg (by simp [hk])]
      have a2 : valV ((k1, v2) :: r2) k = valV r2 k := by unfold valV; rw [List.find?_cons_of_neg (by simp [hk])]
      rw [a1, a2]
      exact getK_rep t
theorem any_rep {k : Key} : ∀ {kvs : List (Key × D)} {ks : List (Key × V)}, KVR K H m kvs ks → (kvs.any fun kv => decide (kv.1 = k)) = (ks.any fun kv => decide (kv.1 = k))
  | _, _, .nil => rfl
  | (k1, d1) :: r1, (k2, v2) :: r2, .cons ⟨e, r⟩ t => by
    have e' : k1 = k2 := e
    subst e'
    rw [List.any_cons, List.any_cons, any_rep t]
theorem mapK_rep {k : Key} {d : D} {v : V} (q : Rep K H m d v) : ∀ {kvs : List (Key × D)} {ks : List (Key × V)}, KVR K H m kvs ks → KVR K H m (kvs.map fun kv => if kv.1 = k then (kv.1, d) else kv) (ks.map fun kv => if kv.1 = k then (kv.1, v) else kv)
  | _, _, .nil => .nil
  | (k1, d1) :: r1, (k2, v2) :: r2, .cons ⟨e, r⟩ t => by
    have e' : k1 = k2 := e
    subst e'
    rw [List.map_cons, List.map_cons]
    refine .cons ?_ (mapK_rep q t)
    by_cases hk : k1 = k
    · simp only [hk, if_true]; exact ⟨trivial, q⟩
    · simp only [hk, if_false]; exact ⟨trivial, r⟩
theorem putD_rep {k : Key} {d : D} {v : V} (q : Rep K H m d v) {kvs : List (Key × D)} {ks : List (Key × V)} (r : KVR K H m kvs ks) : KVR K H m (putD kvs k d) (putK ks k v) := by
  unfold putD putK
  rw [any_rep (k := k) r]
  split
  · exact mapK_rep q r
  · exact Paired.snoc r ⟨rfl, q⟩
theorem StR.dic (s : StR K H m S) {n : Nat} {v : V} {kvs : List (Key × D)} (r : Rep K H m (.loc n) v) (h : S[n]? = some (.dic kvs)) : ∃ a ks, v = .ref a ∧ m[n]? = some a ∧ H a = some (.dK ks) ∧ KVR K H m kvs ks := by
  cases r with
  | loc hm =>
    obtain ⟨vs, e, q⟩ := s.ok n _ _ h hm
    exact ⟨_, vs, rfl, hm, e, q⟩
end

/-! ### items -/
def ixS : Op2 := fun d e S => match e with
  | .int i => match d with
    | .str z => if z.length ≤ sizeLine then (atI z.cps.toList i).bind fun c => some (.str ⟨#[c]⟩, S) else none
    | _ => (seqOf S d).bind fun ds => (atI ds i).bind fun x => some (x, S)
  | _ => none
def ixD : Op2 := fun d e S => match d with
  | .loc n => match S[n]? with
    | some (.dic kvs) => (keyOf e).bind fun k => (getK kvs k).bind fun x => some (x, S)
    | _ => ixS d e S
  | _ => ixS d e S
theorem od_ixS {K : PySem.W.Frag} : OpD K (rIx K) ixS := by
  intro H m S x y d e d' S' Q s rx ry h k
  cases e with
  | int i =>
    cases ry
    have seq : (seqOf S d).bind (fun ds => (atI ds i).bind fun x => some (x, S)) = some (d', S') → rIx K x (.int i) H Q := fun h => by
      obtain ⟨ds, h1, h⟩ := obind h
      obtain ⟨z, h2, h⟩ := obind h
      cases h
      obtain ⟨a, vs, rfl, hs, rs⟩ := seqOf_rep s rx h1
      obtain ⟨v, h3, rv⟩ := atI_rep rs h2
      have fin := k v H m (Ext.refl H m) s rv
      rcases hs with hs | hs
      · exact .inl ⟨a, vs, i, v, rfl, rfl, hs, h3, fin⟩
      · exact .inr (.inl ⟨a, vs, i, v, rfl, rfl, hs, h3, fin⟩)
    cases d with
    | str z =>
      simp only [ixS] at h
      by_cases hz : z.length ≤ sizeLine
      · rw [if_pos hz] at h
        obtain ⟨c, h1, h⟩ := obind h
        cases h
        cases rx
        exact .inr (.inr ⟨z, i, c, rfl, rfl, hz, h1, k _ H m (Ext.refl H m) s (.str _)⟩)
      · rw [if_neg hz] at h; cases h
    | _ => exact seq h
  | _ => cases h
section
variable {X : Cx} {e a b c : Expr} {es : List Expr} {fa fb fc : Ex} {ga : As} {ta tb : Tx} {pos : Pos} {k : Nat}
theorem de_ix (hr : RG k X) (ha : DE X a fa) (hb : DE X b fb) (hs : PlainIx b := by exact fun _ _ => rfl) (hs2 : NoSl b := by exact fun _ _ => rfl) : DE X (.Subscript a b pos) (m2 ixD fa fb) := by
  refine ⟨fun pins s σ H Q I h => ?_⟩
  obtain ⟨ρ, S, m, d', S', E, st, hf, q⟩ := id h
  obtain ⟨p1, h1, hf⟩ := obind hf
  obtain ⟨p2, h2, hf⟩ := obind hf
  have alt : ixS p1.1 p2.1 p2.2 = some (d', S') → wpAny (model X.prog X.w) X.A (eval (.Subscript a b pos) X.env) (EP X pins σ Q) X.xe s := fun hx =>
    (pew (pe_ix ix_seq ha hb hs) fun _ _ _ h => use2 (g := ixS) od_ixS h).run pins s σ H Q I ⟨ρ, S, m, d', S', E, st, by unfold m2; rw [h1, Option.bind_some, h2]; exact hx, q⟩
  cases hp : p1.1 with
  | loc n =>
    rw [hp] at hf alt
    simp only [ixD] at hf
    cases hn : p2.2[n]? with
    | none => rw [hn] at hf; exact alt hf
    | some cl =>
      rw [hn] at hf
      cases cl with
      | lst ds => exact alt hf
      | dic kvs =>
        obtain ⟨kk, k1, hf⟩ := obind hf
        obtain ⟨z0, k2, hf⟩ := obind hf
        cases hf
        refine (pe_dget hr.hu1 ha hb hs2).run pins s σ H Q I ⟨ρ, S, m, p1.1, p1.2, E, st, h1, fun v H1 m1 x1 s1 r1 => ⟨ρ, p1.2, m1, p2.1, p2.2, E.mono st x1, s1, h2, fun u H2 m2 x2 s2 r2 => ?_⟩⟩
        have r1' := r1.mono s1 x2
        rw [hp] at r1'
        obtain ⟨a', ks, rfl, _, e1, rk⟩ := s2.dic r1' hn
        obtain ⟨v', g1, g2⟩ := (getK_rep (k := kk) rk).1 _ k2
        refine ⟨a', v', rfl, ?_, q v' H2 m2 (x1.trans x2) s2 g2⟩
        rw [keyOf_rep r2 k1, ← g1]
        exact DGet.k e1
  | _ => rw [hp] at hf alt; exact alt hf
theorem dt_ix (hr : RG k X) (ha : DE X a fa) (hb : DE X b fb) (hs : PlainIx b := by exact fun _ _ => rfl) (hs2 : NoSl b := by exact fun _ _ => rfl) : DT X (.Subscript a b pos) (mB (m2 ixD fa fb)) := dt_val (de_ix hr ha hb hs hs2)

/-! ### slices -/
def lstOf (S : Sto) : D → Option (List D)
  | .rol ds => some ds
  | .loc k => match S[k]? with | some (.lst ds) => some ds | _ => none
  | _ => none
theorem lstOf_rep {K : PySem.W.Frag} {H : Hp} {m : List Addr} {S : Sto} (s : StR K H m S) {d : D} {v : V} {ds : List D} (r : Rep K H m d v) (h : lstOf S d = some ds) : ∃ a vs, v = .ref a ∧ SqL K H a vs ∧ RepL K H m ds vs := by
  cases d with
  | rol es => cases h; cases r with | rol hs rs => exact ⟨_, _, rfl, hs.sq, rs⟩
  | loc k =>
    simp only [lstOf] at h
    cases hk : S[k]? with
    | none => rw [hk] at h; cases h
    | some c =>
      rw [hk] at h
      cases c with
      | dic kvs => cases h
      | lst es =>
        cases h
        obtain ⟨a, vs, rfl, _, e, rs⟩ := s.lst r hk
        exact ⟨a, vs, rfl, SqL.of e, rs⟩
  | _ => cases h
def cutD (xs : List D) (lo hi : Option Int) : List D := (xs.drop (HT.sIx xs.length 0 lo)).take (HT.sIx xs.length xs.length hi - HT.sIx xs.length 0 lo)
theorem cutD_rep {K : PySem.W.Frag} {H : Hp} {m : List Addr} {ds : List D} {vs : List V} (r : RepL K H m ds vs) (lo hi : Option Int) : RepL K H m (cutD ds lo hi) (cutV vs lo hi) := by
  unfold cutD cutV
  rw [r.length]
  exact (r.drop _).take _
def sliceD (d : D) (lo hi : Option Int) (S : Sto) : Option (D × Sto) := match d with
  | .tup ds => some (.tup (cutD ds lo hi), S)
  | .str z => if z.length ≤ sizeLine then some (.str (cutS z lo hi), S) else none
  | d => (lstOf S d).bind fun ds => some (.loc S.length, S ++ [.lst (cutD ds lo hi)])
abbrev Po := Env → Sto → Option (Option Int × Sto)
def mNoP : Po := fun _ S => some (none, S)
def mP (f : Ex) : Po := fun ρ S => (f ρ S).bind fun p => match p.1 with | .int i => some (some i, p.2) | _ => none
def tPo (K : PySem.W.Frag) (f : Po) : TO := fun σ H Q => ∃ ρ S m o S', EnvR K H m ρ σ ∧ StR K H m S ∧ f ρ S = some (o, S') ∧ ∀ H' m', Ext H m H' m' → StR K H' m' S' → Q o H'
abbrev DP (X : Cx) (e : Option Expr) (f : Po) : Prop := PO X e (tPo X.K f)
theorem pow {e : Option Expr} {t t' : TO} (h : PO X e t) (w : ∀ σ H Q, t' σ H Q → t σ H Q) : PO X e t' := ⟨fun pins s σ H Q I q => h.run pins s σ H Q I (w σ H Q q)⟩
theorem dp_none : DP X none mNoP := pow po_none fun σ H Q h => by
  obtain ⟨ρ, S, m, o, S', E, st, hf, q⟩ := h
  cases hf
  exact q H m (Ext.refl H m) st
theorem dp_some (ha : DE X a fa) : DP X (some a) (mP fa) := pow (po_some ha) fun σ H Q h => by
  obtain ⟨ρ, S, m, o, S', E, st, hf, q⟩ := h
  obtain ⟨p, h1, hf⟩ := obind hf
  refine ⟨ρ, S, m, p.1, p.2, E, st, h1, fun v H1 m1 x1 s1 r1 => ?_⟩
  cases hp : p.1 with
  | int c => rw [hp] at hf r1; cases r1; cases hf; exact ⟨c, rfl, q H1 m1 x1 s1⟩
  | _ => rw [hp] at hf; cases hf
def mSl (f : Ex) (lo hi : Po) : Ex := fun ρ S => (f ρ S).bind fun p => (lo ρ p.2).bind fun l => (hi ρ l.2).bind fun u => sliceD p.1 l.1 u.1 u.2
def rSlD (K : PySem.W.Frag) : V → Option Int → Option Int → Hp → VK → Prop := fun x lo hi H Q => rSlA K x lo hi H Q ∨ rSlL K x lo hi H Q ∨ rSlS x lo hi H Q
theorem cutV_all {xs : List V} {lo hi : Option Int} (h : HT.sIx xs.length 0 lo = 0 ∧ HT.sIx xs.length xs.length hi = xs.length) : cutV xs lo hi = xs := by
  unfold cutV
  rw [h.1, h.2, List.drop_zero, Nat.sub_zero, List.take_length]
theorem slice_rep {K : PySem.W.Frag} {H : Hp} {m : List Addr} {S S' : Sto} {d d' : D} {v : V} {lo hi : Option Int} {Q : VK} (s : StR K H m S) (r : Rep K H m d v) (h : sliceD d lo hi S = some (d', S'))
    (q : ∀ v H' m', Ext H m H' m' → StR K H' m' S' → Rep K H' m' d' v → Q v H') : rSlD K v lo hi H Q := by
  have seq : (lstOf S d).bind (fun ds => some (D.loc S.length, S ++ [Cell.lst (cutD ds lo hi)])) = some (d', S') → rSlD K v lo hi H Q := fun hh => by
    obtain ⟨ds, h4, hh⟩ := obind hh
    cases hh
    obtain ⟨a', vs, rfl, hs, rs⟩ := lstOf_rep s r h4
    refine .inr (.inl ⟨a', vs, rfl, hs, fun p hp => ?_⟩)
    obtain ⟨q1, q2, q3⟩ := newL s (cutD_rep rs lo hi) hp
    exact q _ _ _ q1 q2 q3
  cases d with
  | tup ds =>
    cases h
    cases r with
    | tup hs rs =>
      refine .inl ⟨_, _, rfl, hs, fun e => ?_, fun _ p hp => ?_⟩
      · have := cutD_rep rs lo hi
        rw [cutV_all e] at this
        exact q _ H m (Ext.refl H m) s (.tup hs this)
      · exact q _ _ m (Ext.new1 hp) (s.new1 hp) (.tup (SqT.of upd_same) ((cutD_rep rs lo hi).mono s (Ext.new1 hp)))
  | str z =>
    simp only [sliceD] at h
    by_cases hz : z.length ≤ sizeLine
    · rw [if_pos hz] at h; cases h; cases r
      exact .inr (.inr ⟨z, rfl, hz, q _ H m (Ext.refl H m) s (.str _)⟩)
    · rw [if_neg hz] at h; cases h
  | _ => exact seq h
theorem de_sl {lo hi : Option Expr} {fl fh : Po} {p2 : Pos} (ha : DE X a fa) (hl : DP X lo fl) (hh : DP X hi fh) : DE X (.Subscript a (.Slice lo hi none p2) pos) (mSl fa fl fh) :=
  pew (pe_slice (r := rSlD X.K) (sl_tupA.or (sl_list.or sl_str)) ha hl hh) fun σ H Q h => by
    obtain ⟨ρ, S, m, d, S', E, st, hf, q⟩ := h
    obtain ⟨p1, h1, hf⟩ := obind hf
    obtain ⟨p2, h2, hf⟩ := obind hf
    obtain ⟨p3, h3, hf⟩ := obind hf
    refine ⟨ρ, S, m, p1.1, p1.2, E, st, h1, fun v H1 m1 x1 s1 r1 => ⟨ρ, p1.2, m1, p2.1, p2.2, E.mono st x1, s1, h2, fun H2 m2 x2 s2 => ⟨ρ, p2.2, m2, p3.1, p3.2, (E.mono st x1).mono s1 x2, s2, h3, fun H3 m3 x3 s3 => ?_⟩⟩⟩
    exact slice_rep s3 ((r1.mono s1 x2).mono s2 x3) hf fun w H4 m4 x4 s4 r4 => q w H4 m4 (((x1.trans x2).trans x3).trans x4) s4 r4

/-! ### methods of lists -/
def appD : Op2 := fun d e S => match d with
  | .loc n => match S[n]? with
    | some (.lst ds) => if ds.length < sizeLine then some (.non, S.set n (.lst (ds ++ [e]))) else none
    | _ => none
  | _ => none
def popD (d : D) (S : Sto) : Option (D × Sto) := match d with
  | .loc n => match S[n]? with
    | some (.lst ds) => (ds[ds.length - 1]?).bind fun x => some (x, S.set n (.lst ds.dropLast))
    | _ => none
  | _ => none
theorem RepL.dropLast {K : PySem.W.Frag} {H : Hp} {m : List Addr} {ds : List D} {vs : List V} (r : RepL K H m ds vs) : RepL K H m ds.dropLast vs.dropLast := by
  rw [List.dropLast_eq_take, List.dropLast_eq_take, r.length]
  exact r.take _
theorem putL {K : PySem.W.Frag} {H : Hp} {m : List Addr} {S : Sto} {n : Nat} {a : Addr} {ds : List D} {vs : List V} (s : StR K H m S) (h : m[n]? = some a) (r : RepL K H m ds vs) : Ext H m (upd H a (.lst vs)) m ∧ StR K (upd H a (.lst vs)) m (S.set n (.lst ds)) := by
  have x := Ext.put (o := HO.lst vs) s h
  exact ⟨x, s.put h ⟨vs, upd_same, r.mono s x⟩⟩
def mMeth1 (g : Op2) (fa : Ex) (ga : As) : Ex := fun ρ S => (fa ρ S).bind fun p => (lstOf p.2 p.1).bind fun _ => (ga ρ p.2).bind fun q => match q.1 with | [e] => g p.1 e q.2 | _ => none
def mMeth0 (g : D → Sto → Option (D × Sto)) (fa : Ex) : Ex := fun ρ S => (fa ρ S).bind fun p => (lstOf p.2 p.1).bind fun _ => g p.1 p.2
theorem tyL {K : PySem.W.Frag} {H : Hp} {m : List Addr} {S : Sto} (s : StR K H m S) {d : D} {v : V} {ds : List D} (r : Rep K H m d v) (h : lstOf S d = some ds) : tyV K "list" v H := by
  obtain ⟨a, vs, rfl, hs, _⟩ := lstOf_rep s r h
  exact .inl ⟨rfl, _, hs⟩
theorem app_rep {K : PySem.W.Frag} {H : Hp} {m : List Addr} {S S' : Sto} {d e d' : D} {v u : V} {Q : VK} (s : StR K H m S) (r : Rep K H m d v) (r2 : Rep K H m e u) (h : appD d e S = some (d', S'))
    (q : ∀ v H' m', Ext H m H' m' → StR K H' m' S' → Rep K H' m' d' v → Q v H') : rAppend v [u] H Q := by
  cases d with
  | loc n =>
    simp only [appD] at h
    cases hn : S[n]? with
    | none => rw [hn] at h; cases h
    | some cl =>
      rw [hn] at h
      cases cl with
      | dic _ => cases h
      | lst ds =>
        simp only at h
        by_cases hl : ds.length < sizeLine
        · rw [if_pos hl] at h; cases h
          obtain ⟨a', vs, rfl, hm, e1, rs⟩ := s.lst r hn
          obtain ⟨q1, q2⟩ := putL s hm (rs.app (.cons r2 .nil))
          exact ⟨a', vs, _, rfl, rfl, e1, by rw [← rs.length]; exact hl, q _ _ m q1 q2 .non⟩
        · rw [if_neg hl] at h; cases h
  | _ => cases h
theorem pop_rep {K : PySem.W.Frag} {H : Hp} {m : List Addr} {S S' : Sto} {d d' : D} {v : V} {Q : VK} (s : StR K H m S) (r : Rep K H m d v) (h : popD d S = some (d', S'))
    (q : ∀ v H' m', Ext H m H' m' → StR K H' m' S' → Rep K H' m' d' v → Q v H') : rPop v [] H Q := by
  cases d with
  | loc n =>
    simp only [popD] at h
    cases hn : S[n]? with
    | none => rw [hn] at h; cases h
    | some cl =>
      rw [hn] at h
      cases cl with
      | dic _ => cases h
      | lst ds =>
        obtain ⟨x, h1, h⟩ := obind h
        cases h
        obtain ⟨a', vs, rfl, hm, e1, rs⟩ := s.lst r hn
        obtain ⟨y, g1, g2⟩ := rs.get h1
        rw [rs.length] at g1
        obtain ⟨q1, q2⟩ := putL s hm rs.dropLast
        exact ⟨a', vs, y, rfl, rfl, e1, g1, q _ _ m q1 q2 (g2.mono s q1)⟩
  | _ => cases h
theorem de_append {apos : Pos} (ho : DE X a fa) (ha : DA X [e] ga) (hbase : attributeBase a "append" X.env (eval a X.env) = eval a X.env := by rfl)
    (hfew : ((backTo pos (starEach [e] X.env)).all (fun x => !x.1) && (backToKw pos (keywordEach [] X.env)).all (fun x => x.1.isSome) && decide ([e].length + ([] : List Keyword).length + (if ([] : List Keyword).isEmpty then 0 else 1) < 30)) = true := by rfl)
    (hline : (apos.endLine == pos.line) = true := by rfl) (hs : starEach [e] X.env = (false, eval e X.env) :: starEach [] X.env := by rfl) : DE X (.Call (.Attribute a "append" apos) [e] [] pos) (mMeth1 appD fa ga) :=
  pew (pe_bm PySem.F.plainAttrs_list PySem.F.slot_list_append PySem.F.type_list_append mt_append ho ha.pa hbase hfew hline hs) fun σ H Q h => by
    obtain ⟨ρ, S, m, d, S', E, st, hf, q⟩ := h
    obtain ⟨p1, h1, hf⟩ := obind hf
    obtain ⟨ls, hls, hf⟩ := obind hf
    obtain ⟨p2, h2, hf⟩ := obind hf
    have hlen := ha.len _ _ _ _ h2
    refine ⟨ρ, S, m, p1.1, p1.2, E, st, h1, fun v H1 m1 x1 s1 r1 => ⟨tyL s1 r1 hls, ρ, p1.2, m1, p2.1, p2.2, E.mono st x1, s1, h2, fun us H2 m2 x2 s2 r2 => ?_⟩⟩
    generalize p2.1 = l at hf hlen r2
    match l, hf, hlen, r2 with
    | [d1], hf, _, .cons r2 .nil => exact app_rep s2 (r1.mono s1 x2) r2 hf fun w H3 m3 x3 s3 r3 => q w H3 m3 ((x1.trans x2).trans x3) s3 r3
theorem de_pop {apos : Pos} (ho : DE X a fa) (hbase : attributeBase a "pop" X.env (eval a X.env) = eval a X.env := by rfl) (hline : (apos.endLine == pos.line) = true := by rfl) : DE X (.Call (.Attribute a "pop" apos) [] [] pos) (mMeth0 popD fa) :=
  pew (pe_bm0 PySem.F.plainAttrs_list PySem.F.slot_list_pop PySem.F.type_list_pop mt_pop ho hbase hline) fun σ H Q h => by
    obtain ⟨ρ, S, m, d, S', E, st, hf, q⟩ := h
    obtain ⟨p1, h1, hf⟩ := obind hf
    obtain ⟨ls, hls, hf⟩ := obind hf
    refine ⟨ρ, S, m, p1.1, p1.2, E, st, h1, fun v H1 m1 x1 s1 r1 => ⟨tyL s1 r1 hls, pop_rep s1 r1 hf fun w H2 m2 x2 s2 r2 => q w H2 m2 (x1.trans x2) s2 r2⟩⟩

/-! ### built-ins of one argument -/
abbrev Op1 := D → Sto → Option (D × Sto)
def Op1D (K : PySem.W.Frag) (r : List V → Hp → VK → Prop) (g : Op1) : Prop := ∀ (H : Hp) (m : List Addr) (S : Sto) (x : V) (d d' : D) (S' : Sto) (Q : VK), StR K H m S → Rep K H m d x → g d S = some (d', S') →
  (∀ v H' m', Ext H m H' m' → StR K H' m' S' → Rep K H' m' d' v → Q v H') → r [x] H Q
def m1 (g : Op1) (ga : As) : Ex := fun ρ S => (ga ρ S).bind fun q => match q.1 with | [e] => g e q.2 | _ => none
theorem use1 {K : PySem.W.Frag} {r : List V → Hp → VK → Prop} {g : Op1} (o : Op1D K r g) (ha : ∀ ρ S ds S', ga ρ S = some (ds, S') → ds.length = 1) {σ : L2.St} {H : Hp} {Q : VK} (h : tE K (m1 g ga) σ H Q) : tCB r (tA K ga) σ H Q := by
  obtain ⟨ρ, S, m, d, S', E, st, hf, q⟩ := h
  obtain ⟨p2, h2, hf⟩ := obind hf
  have hlen := ha _ _ _ _ h2
  refine ⟨ρ, S, m, p2.1, p2.2, E, st, h2, fun us H2 m2 x2 s2 r2 => ?_⟩
  generalize p2.1 = l at hf hlen r2
  match l, hf, hlen, r2 with
  | [d1], hf, _, .cons r2 .nil => exact o H2 m2 p2.2 _ d1 d S' Q s2 r2 hf fun w H3 m3 x3 s3 r3 => q w H3 m3 (x2.trans x3) s3 r3
theorem de_b1 {id : String} {x : Str} {p : Pos} {r : List V → Hp → VK → Prop} {g : Op1} (hc : CallR X (.builtin id) r) (o : Op1D X.K r g) (hg : Gl X x) (hm : X.mg x = none) (hv : bootBuiltins x = some (.builtin id)) (ha : DA X [e] ga) (hn : x ≠ "__name__" := by decide) (hdb : (x == ("__debug__" : Str)) = false := by decide)
    (he : starEach [e] X.env = (false, eval e X.env) :: starEach [] X.env := by rfl) : DE X (.Call (.Name x p) [e] [] pos) (m1 g ga) := pew (pe_callB hc hg hm hv ha.pa hn hdb he rfl) fun _ _ _ h => use1 o (fun ρ S ds S' q => ha.len ρ S ds S' q) h
theorem de_t1 {id : String} {x : Str} {p : Pos} {r : List V → Hp → VK → Prop} {g : Op1} (hc : CallR X (.type id) r) (o : Op1D X.K r g) (hg : Gl X x) (hm : X.mg x = none) (hv : bootBuiltins x = some (.type id)) (ha : DA X [e] ga) (hn : x ≠ "__name__" := by decide) (hdb : (x == ("__debug__" : Str)) = false := by decide)
    (he : starEach [e] X.env = (false, eval e X.env) :: starEach [] X.env := by rfl) : DE X (.Call (.Name x p) [e] [] pos) (m1 g ga) := pew (pe_callTy hc hg hm hv ha.pa hn hdb he rfl) fun _ _ _ h => use1 o (fun ρ S ds S' q => ha.len ρ S ds S' q) h

theorem CallR.or {f : Value} {r r' : List V → Hp → VK → Prop} (h : CallR X f r) (h' : CallR X f r') : CallR X f (fun xs H Q => r xs H Q ∨ r' xs H Q) := fun pins s σ H xs us Q I rv q => q.elim (h pins s σ H xs us Q I rv) (h' pins s σ H xs us Q I rv)

/-- len -/
def lenD : Op1 := fun d S => match d with
  | .str z => if z.length ≤ sizeLine then some (.int z.length, S) else none
  | .loc n => match S[n]? with
    | some (.lst ds) => some (.int ds.length, S)
    | some (.dic kvs) => some (.int kvs.length, S)
    | none => none
  | .tup ds => some (.int ds.length, S)
  | .rol ds => some (.int ds.length, S)
  | _ => none
def rLenD (K : PySem.W.Frag) : List V → Hp → VK → Prop := fun xs H Q => (∃ p ys, xs = [.ref p] ∧ (SqL K H p ys ∨ SqT K H p ys) ∧ Q (.int ys.length) H) ∨ (∃ z, xs = [.str z] ∧ z.length ≤ sizeLine ∧ Q (.int z.length) H) ∨
  (∃ a kvs, xs = [V.ref a] ∧ H a = some (.dK kvs) ∧ Q (.int kvs.length) H)
theorem Paired.len {α β : Type} {F : α → β → Prop} {l : List α} {l' : List β} (r : Paired F l l') : l.length = l'.length := Paired.length r
theorem o1_len {K : PySem.W.Frag} : Op1D K (rLenD K) lenD := by
  intro H m S x d d' S' Q s r h k
  cases d with
  | str z =>
    simp only [lenD] at h
    by_cases hz : z.length ≤ sizeLine
    · rw [if_pos hz] at h; cases h; cases r; exact .inr (.inl ⟨z, rfl, hz, k _ H m (Ext.refl H m) s (.int _)⟩)
    · rw [if_neg hz] at h; cases h
  | tup ds => cases h; cases r with | tup hs rs => exact .inl ⟨_, _, rfl, .inr hs, by rw [← rs.length]; exact k _ H m (Ext.refl H m) s (.int _)⟩
  | rol ds => cases h; cases r with | rol hs rs => exact .inl ⟨_, _, rfl, .inl hs.sq, by rw [← rs.length]; exact k _ H m (Ext.refl H m) s (.int _)⟩
  | loc n =>
    simp only [lenD] at h
    cases hn : S[n]? with
    | none => rw [hn] at h; cases h
    | some cl =>
      rw [hn] at h
      cases cl with
      | lst ds =>
        cases h
        obtain ⟨a', vs, rfl, hm, e1, rs⟩ := s.lst r hn
        exact .inl ⟨_, _, rfl, .inl (SqL.of e1), by rw [← rs.length]; exact k _ H m (Ext.refl H m) s (.int _)⟩
      | dic ds =>
        cases h
        obtain ⟨a', vs, rfl, hm, e1, rs⟩ := s.dic r hn
        exact .inr (.inr ⟨_, _, rfl, e1, by rw [← Paired.len rs]; exact k _ H m (Ext.refl H m) s (.int _)⟩)
  | _ => cases h
theorem de_len {p : Pos} (hg : Gl X "len") (hm : X.mg "len" = none) (ha : DA X [e] ga) (he : starEach [e] X.env = (false, eval e X.env) :: starEach [] X.env := by rfl) : DE X (.Call (.Name "len" p) [e] [] pos) (m1 lenD ga) :=
  de_b1 (CallR.or call_len_seq (CallR.or call_len_str call_lenD)) o1_len hg hm (by decide +kernel) ha (by decide) (by decide) he
/-- abs, int -/
def absD : Op1 := fun d S => match d with | .int i => some (.int (if i < 0 then -i else i), S) | _ => none
def toIntD : Op1 := fun d S => match d with | .int i => some (.int i, S) | .bl b => some (.int (if b then 1 else 0), S) | _ => none
theorem o1_abs {K : PySem.W.Frag} : Op1D K (fun xs H Q => ∃ i, xs = [.int i] ∧ Q (.int (if i < 0 then -i else i)) H) absD := by
  intro H m S x d d' S' Q s r h k
  cases d with
  | int i => cases h; cases r; exact ⟨i, rfl, k _ H m (Ext.refl H m) s (.int _)⟩
  | _ => cases h
theorem o1_int {K : PySem.W.Frag} : Op1D K (fun xs H Q => (∃ i, xs = [.int i] ∧ Q (.int i) H) ∨ ∃ k, xs = [.bl k] ∧ Q (.int (if k then 1 else 0)) H) toIntD := by
  intro H m S x d d' S' Q s r h k
  cases d with
  | int i => cases h; cases r; exact .inl ⟨i, rfl, k _ H m (Ext.refl H m) s (.int _)⟩
  | bl i => cases h; cases r; exact .inr ⟨i, rfl, k _ H m (Ext.refl H m) s (.int _)⟩
  | _ => cases h
theorem de_abs {p : Pos} (hg : Gl X "abs") (hm : X.mg "abs" = none) (ha : DA X [e] ga) (he : starEach [e] X.env = (false, eval e X.env) :: starEach [] X.env := by rfl) : DE X (.Call (.Name "abs" p) [e] [] pos) (m1 absD ga) :=
  de_b1 call_abs o1_abs hg hm (by decide +kernel) ha (by decide) (by decide) he
theorem de_toInt {p : Pos} (hg : Gl X "int") (hm : X.mg "int" = none) (ha : DA X [e] ga) (he : starEach [e] X.env = (false, eval e X.env) :: starEach [] X.env := by rfl) : DE X (.Call (.Name "int" p) [e] [] pos) (m1 toIntD ga) :=
  de_t1 call_int1 o1_int hg hm (by decide +kernel) ha (by decide) (by decide) he
/-- tuple, list -/
def tupleD : Op1 := fun d S => (seqOf S d).bind fun ds => some (.tup ds, S)
def listD : Op1 := fun d S => (seqOf S d).bind fun ds => some (.loc S.length, S ++ [.lst ds])
theorem o1_tuple {K : PySem.W.Frag} : Op1D K (fun xs H Q => ∃ p ys, xs = [.ref p] ∧ ((SqL K H p ys ∧ ∀ l, H l = none → Q (.ref l) (upd H l (.tup ys))) ∨ (SqT K H p ys ∧ Q (.ref p) H))) tupleD := by
  intro H m S x d d' S' Q s r h k
  obtain ⟨ds, h1, h⟩ := obind h
  cases h
  obtain ⟨a, vs, rfl, hs, rs⟩ := seqOf_rep s r h1
  refine ⟨a, vs, rfl, ?_⟩
  rcases hs with hs | hs
  · exact .inl ⟨hs, fun l hl => k _ _ m (Ext.new1 hl) (s.new1 hl) (.tup (SqT.of upd_same) (rs.mono s (Ext.new1 hl)))⟩
  · exact .inr ⟨hs, k _ H m (Ext.refl H m) s (.tup hs rs)⟩
theorem o1_list {K : PySem.W.Frag} : Op1D K (fun xs H Q => ∃ p ys, xs = [.ref p] ∧ (SqL K H p ys ∨ SqT K H p ys) ∧ ∀ l, H l = none → Q (.ref l) (upd H l (.lst ys))) listD := by
  intro H m S x d d' S' Q s r h k
  obtain ⟨ds, h1, h⟩ := obind h
  cases h
  obtain ⟨a, vs, rfl, hs, rs⟩ := seqOf_rep s r h1
  refine ⟨a, vs, rfl, hs, fun l hl => ?_⟩
  obtain ⟨q1, q2, q3⟩ := newL s rs hl
  exact k _ _ _ q1 q2 q3
theorem de_tuple {p : Pos} (hg : Gl X "tuple") (hm : X.mg "tuple" = none) (ha : DA X [e] ga) (he : starEach [e] X.env = (false, eval e X.env) :: starEach [] X.env := by rfl) : DE X (.Call (.Name "tuple" p) [e] [] pos) (m1 tupleD ga) :=
  de_t1 call_tuple_of o1_tuple hg hm (by decide +kernel) ha (by decide) (by decide) he
theorem de_list {p : Pos} (hg : Gl X "list") (hm : X.mg "list" = none) (ha : DA X [e] ga) (he : starEach [e] X.env = (false, eval e X.env) :: starEach [] X.env := by rfl) : DE X (.Call (.Name "list" p) [e] [] pos) (m1 listD ga) :=
  de_t1 call_list_of o1_list hg hm (by decide +kernel) ha (by decide) (by decide) he

/-! ### repr -/
def reprD : Op1 := fun d S => (toPy 64 S d).bind fun p => if PyData.showable p = true ∧ p.shown.length ≤ sizeLine ∧ p.depth ≤ 64 then (match p with | .list _ => some (.str p.shown, S) | .tuple _ => some (.str p.shown, S) | _ => none) else none
def rRepr (K : PySem.W.Frag) : List V → Hp → VK → Prop := fun xs H Q => ∃ x p, xs = [x] ∧ Dp K H x p ∧ (∃ qs, p = .list qs ∨ p = .tuple qs) ∧ PyData.showable p = true ∧ p.shown.length ≤ sizeLine ∧ p.depth ≤ 64 ∧ Q (.str p.shown) H
theorem Dp_noDict {K : PySem.W.Frag} {H : Hp} : ∀ (p : PyData) (x : V), Dp K H x p → p.hasDict = false := by
  intro p
  refine PyData.rec (motive_1 := fun p => ∀ x, Dp K H x p → p.hasDict = false) (motive_2 := fun ps => ∀ xs, DpAll K H xs ps → PyData.hasDictAll ps = false) (motive_3 := fun _ => True) (motive_4 := fun _ => True) ?_ ?_ ?_ ?_ ?_ ?_ ?_ ?_ ?_ ?_ ?_ ?_ p
  · intro x h; simp only [PyData.hasDict]
  · intro b x h; simp only [PyData.hasDict]
  · intro b x h; simp only [PyData.hasDict]
  · intro b x h; simp only [PyData.hasDict]
  · intro xs ih x h
    cases h with
    | lst _ h2 => simpa only [PyData.hasDict] using ih _ h2
  · intro xs ih x h
    cases h with
    | tup _ h2 => simpa only [PyData.hasDict] using ih _ h2
  · intro kvs _ x h; cases h
  · intro xs h; simp only [PyData.hasDictAll]
  · intro a r ih1 ih2 xs h
    cases h with
    | cons h1 h2 => simp only [PyData.hasDictAll, ih1 _ h1, ih2 _ h2, Bool.or_self]
  all_goals (intros; trivial)
theorem call_repr (hr : RG k X) : CallR X (.builtin "repr") (rRepr X.K) := by
  intro pins s σ H xs us Q I r h
  obtain ⟨x, p, rfl, hd, ⟨qs, hq⟩, h1, h2, h3, q⟩ := h
  obtain ⟨u, rfl, ru⟩ := vals1 r
  obtain ⟨as, hreads⟩ := Dp.reads I p x u hd ru
  have hx : ∃ a, x = .ref a := by
    rcases hq with rfl | rfl <;> cases hd <;> exact ⟨_, rfl⟩
  obtain ⟨a, rfl⟩ := hx
  cases ru
  have hn := Dp_noDict p _ hd
  have hu := hr.room.un
  refine repr_of_reads' hreads h1 (fun z => by rw [hn] at z; cases z) hr.gd (by omega) (fun _ _ e => e) (fun h' u tk hk => ?_) h2
  exact ⟨.str p.shown, H, I.kept (t' := tk) hk, ⟨u, rfl⟩, q⟩
theorem o1_repr {K : PySem.W.Frag} : Op1D K (rRepr K) reprD := by
  intro H m S x d d' S' Q s r h q
  obtain ⟨p, h1, h⟩ := obind h
  by_cases hc : PyData.showable p = true ∧ p.shown.length ≤ sizeLine ∧ p.depth ≤ 64
  · rw [if_pos hc] at h
    have hd := toPy_dp s _ _ _ _ r h1
    cases p with
    | list qs => cases h; exact ⟨x, _, rfl, hd, ⟨qs, .inl rfl⟩, hc.1, hc.2.1, hc.2.2, q _ H m (Ext.refl H m) s (.str _)⟩
    | tuple qs => cases h; exact ⟨x, _, rfl, hd, ⟨qs, .inr rfl⟩, hc.1, hc.2.1, hc.2.2, q _ H m (Ext.refl H m) s (.str _)⟩
    | _ => cases h
  · rw [if_neg hc] at h; cases h
theorem de_repr {p : Pos} (hr : RG k X) (hg : Gl X "repr") (hm : X.mg "repr" = none) (ha : DA X [e] ga) (he : starEach [e] X.env = (false, eval e X.env) :: starEach [] X.env := by rfl) : DE X (.Call (.Name "repr" p) [e] [] pos) (m1 reprD ga) :=
  de_b1 (call_repr hr) o1_repr hg hm (by decide +kernel) ha (by decide) (by decide) he
end
end DD

/-! Statements, loops, comprehensions upon data. -/
namespace DD
open PySem PySem.Spec PyProof.Rows L2

/-! ### equality of data is decided -/
mutual
def D.dec : (a b : D) → Decidable (a = b)
  | .non, .non => .isTrue rfl
  | .bl a, .bl b => if h : a = b then .isTrue (by rw [h]) else .isFalse (fun q => h (D.bl.inj q))
  | .int a, .int b => if h : a = b then .isTrue (by rw [h]) else .isFalse (fun q => h (D.int.inj q))
  | .str a, .str b => if h : a = b then .isTrue (by rw [h]) else .isFalse (fun q => h (D.str.inj q))
  | .loc a, .loc b => if h : a = b then .isTrue (by rw [h]) else .isFalse (fun q => h (D.loc.inj q))
  | .tup a, .tup b => match D.decL a b with
    | .isTrue h => .isTrue (by rw [h])
    | .isFalse h => .isFalse (fun q => h (D.tup.inj q))
  | .rol a, .rol b => match D.decL a b with
    | .isTrue h => .isTrue (by rw [h])
    | .isFalse h => .isFalse (fun q => h (D.rol.inj q))
  | .non, .bl _ => .isFalse (fun q => by cases q)
  | .non, .int _ => .isFalse (fun q => by cases q)
  | .non, .str _ => .isFalse (fun q => by cases q)
  | .non, .tup _ => .isFalse (fun q => by cases q)
  | .non, .rol _ => .isFalse (fun q => by cases q)
  | .non, .loc _ => .isFalse (fun q => by cases q)
  | .bl _, .non => .isFalse (fun q => by cases q)
  | .bl _, .int _ => .isFalse (fun q => by cases q)
  | .bl _, .str _ => .isFalse (fun q => by cases q)
  | .bl _, .tup _ => .isFalse (fun q => by cases q)
  | .bl _, .rol _ => .isFalse (fun q => by cases q)
  | .bl _, .loc _ => .isFalse (fun q => by cases q)
  | .int _, .non => .isFalse (fun q => by cases q)
  | .int _, .bl _ => .isFalse (fun q => by cases q)
  | .int _, .str _ => .isFalse (fun q => by cases q)
  | .int _, .tup _ => .isFalse (fun q => by cases q)
  | .int _, .rol _ => .isFalse (fun q => by cases q)
  | .int _, .loc _ => .isFalse (fun q => by cases q)
  | .str _, .non => .isFalse (fun q => by cases q)
  | .str _, .bl _ => .isFalse (fun q => by cases q)
  | .str _, .int _ => .isFalse (fun q => by cases q)
  | .str _, .tup _ => .isFalse (fun q => by cases q)
  | .str _, .rol _ => .isFalse (fun q => by cases q)
  | .str _, .loc _ => .isFalse (fun q => by cases q)
  | .tup _, .non => .isFalse (fun q => by cases q)
  | .tup _, .bl _ => .isFalse (fun q => by cases q)
  | .tup _, .int _ => .isFalse (fun q => by cases q)
  | .tup _, .str _ => .isFalse (fun q => by cases q)
  | .tup _, .rol _ => .isFalse (fun q => by cases q)
  | .tup _, .loc _ => .isFalse (fun q => by cases q)
  | .rol _, .non => .isFalse (fun q => by cases q)
  | .rol _, .bl _ => .isFalse (fun q => by cases q)
  | .rol _, .int _ => .isFalse (fun q => by cases q)
  | .rol _, .str _ => .isFalse (fun q => by cases q)
  | .rol _, .tup _ => .isFalse (fun q => by cases q)
  | .rol _, .loc _ => .isFalse (fun q => by cases q)
  | .loc _, .non => .isFalse (fun q => by cases q)
  | .loc _, .bl _ => .isFalse (fun q => by cases q)
  | .loc _, .int _ => .isFalse (fun q => by cases q)
  | .loc _, .str _ => .isFalse (fun q => by cases q)
  | .loc _, .tup _ => .isFalse (fun q => by cases q)
  | .loc _, .rol _ => .isFalse (fun q => by cases q)
  | .rod ks a, .rod ls b => if h : ks = ls then match D.decL a b with
    | .isTrue h' => .isTrue (by rw [h, h'])
    | .isFalse h' => .isFalse (fun q => h' (D.rod.inj q).2)
    else .isFalse (fun q => h (D.rod.inj q).1)
  | .rod _ _, .non => .isFalse (fun q => by cases q)
  | .non, .rod _ _ => .isFalse (fun q => by cases q)
  | .rod _ _, .bl _ => .isFalse (fun q => by cases q)
  | .bl _, .rod _ _ => .isFalse (fun q => by cases q)
  | .rod _ _, .int _ => .isFalse (fun q => by cases q)
  | .int _, .rod _ _ => .isFalse (fun q => by cases q)
  | .rod _ _, .str _ => .isFalse (fun q => by cases q)
  | .str _, .rod _ _ => .isFalse (fun q => by cases q)
  | .rod _ _, .tup _ => .isFalse (fun q => by cases q)
  | .tup _, .rod _ _ => .isFalse (fun q => by cases q)
  | .rod _ _, .rol _ => .isFalse (fun q => by cases q)
  | .rol _, .rod _ _ => .isFalse (fun q => by cases q)
  | .rod _ _, .loc _ => .isFalse (fun q => by cases q)
  | .loc _, .rod _ _ => .isFalse (fun q => by cases q)
def D.decL : (a b : List D) → Decidable (a = b)
  | [], [] => .isTrue rfl
  | [], _ :: _ => .isFalse (fun q => by cases q)
  | _ :: _, [] => .isFalse (fun q => by cases q)
  | a :: as, b :: bs => match D.dec a b with
    | .isFalse h => .isFalse (fun q => h (List.cons.inj q).1)
    | .isTrue h => match D.decL as bs with
      | .isTrue h' => .isTrue (by rw [h, h'])
      | .isFalse h' => .isFalse (fun q => h' (List.cons.inj q).2)
end
instance : DecidableEq D := D.dec

theorem psw {X : Cx} {e : Stmt} {t t' : TS} (h : PS X e t) (w : ∀ E σ H, t' E σ H → t E σ H) : PS X e t' := ⟨fun pins s σ H E I q => h.run pins s σ H E I (w E σ H q)⟩
theorem pssw {X : Cx} {e : List Stmt} {t t' : TS} (h : PSs X e t) (w : ∀ E σ H, t' E σ H → t E σ H) : PSs X e t' := ⟨fun pins s σ H E I q => h.run pins s σ H E I (w E σ H q)⟩
abbrev DS (X : Cx) (e : Stmt) (f : SM) : Prop := PS X e (tS X.K f)
abbrev DSs (X : Cx) (e : List Stmt) (f : SM) : Prop := PSs X e (tS X.K f)

def mSeq (f g : SM) : SM := fun ρ S => (f ρ S).bind fun o => match o with | .nx ρ' S' => g ρ' S' | o => some o
def mSkip : SM := fun ρ S => some (.nx ρ S)
def mRet (f : Ex) : SM := fun ρ S => (f ρ S).bind fun p => some (.rt p.1 p.2)
def mRetN : SM := fun _ S => some (.rt .non S)
def mDo (f : Ex) : SM := fun ρ S => (f ρ S).bind fun p => some (.nx ρ p.2)
def mIte (t : Tx) (f g : SM) : SM := fun ρ S => (t ρ S).bind fun p => if p.1 = true then f ρ p.2 else g ρ p.2
def mBreak : SM := fun ρ S => some (.bk ρ S)
def mCont : SM := fun ρ S => some (.ct ρ S)
section
variable {X : Cx} {st : Stmt} {rest : List Stmt} {f g : SM} {e a b : Expr} {fa fb : Ex} {ga : As} {ta : Tx} {pos : Pos} {k : Nat}
theorem dss_nil : DSs X [] mSkip := pssw pss_nil fun E σ H h => by
  obtain ⟨ρ, S, m, o, er, sr, hf, q⟩ := h
  cases hf
  exact q σ H m (Ext.refl H m) sr er
theorem dss_cons (h1 : DS X st f) (h2 : DSs X rest g) : DSs X (st :: rest) (mSeq f g) := pssw (pss_cons h1 h2) fun E σ H h => by
  obtain ⟨ρ, S, m, o, er, sr, hf, q⟩ := h
  obtain ⟨o1, h1, hf⟩ := obind hf
  refine ⟨ρ, S, m, o1, er, sr, h1, ?_⟩
  cases o1 with
  | nx ρ1 S1 => exact fun σ1 H1 m1 x1 s1 e1 => ⟨ρ1, S1, m1, o, e1, s1, hf, q.mono x1⟩
  | rt d S1 => cases hf; exact q
  | bk ρ1 S1 => cases hf; exact q
  | ct ρ1 S1 => cases hf; exact q
theorem dss_one (h1 : DS X st f) : DSs X [st] f := pss_one h1
theorem ds_pass : DS X (.Pass pos) mSkip := psw ps_pass fun E σ H h => by
  obtain ⟨ρ, S, m, o, er, sr, hf, q⟩ := h
  cases hf
  exact q σ H m (Ext.refl H m) sr er
theorem ds_break : DS X (.Break pos) mBreak := psw ps_break fun E σ H h => by
  obtain ⟨ρ, S, m, o, er, sr, hf, q⟩ := h
  cases hf
  exact q σ H m (Ext.refl H m) sr er
theorem ds_cont : DS X (.Continue pos) mCont := psw ps_continue fun E σ H h => by
  obtain ⟨ρ, S, m, o, er, sr, hf, q⟩ := h
  cases hf
  exact q σ H m (Ext.refl H m) sr er
theorem ds_doc {x : Str} {j : Nat} {p : Pos} : DS X (.Expr (.Constant (.str x) j p) pos) mSkip := psw ps_doc fun E σ H h => by
  obtain ⟨ρ, S, m, o, er, sr, hf, q⟩ := h
  cases hf
  exact q σ H m (Ext.refl H m) sr er
theorem ds_ret (ha : DE X a fa) : DS X (.Return (some a) pos) (mRet fa) := psw (ps_ret ha) fun E σ H h => by
  obtain ⟨ρ, S, m, o, er, sr, hf, q⟩ := h
  obtain ⟨p, h1, hf⟩ := obind hf
  cases hf
  exact ⟨ρ, S, m, p.1, p.2, er, sr, h1, fun v H1 m1 x1 s1 r1 => q v H1 m1 x1 s1 r1⟩
theorem ds_retN : DS X (.Return none pos) mRetN := psw ps_retN fun E σ H h => by
  obtain ⟨ρ, S, m, o, er, sr, hf, q⟩ := h
  cases hf
  exact q .non H m (Ext.refl H m) sr .non
theorem ds_do (ha : DE X a fa) (hs : swapsWith a none pos.line X.env = pure false := by rfl) : DS X (.Expr a pos) (mDo fa) := psw (ps_expr ha hs) fun E σ H h => by
  obtain ⟨ρ, S, m, o, er, sr, hf, q⟩ := h
  obtain ⟨p, h1, hf⟩ := obind hf
  cases hf
  exact ⟨ρ, S, m, p.1, p.2, er, sr, h1, fun v H1 m1 x1 s1 r1 => q σ H1 m1 x1 s1 (er.mono sr x1)⟩
theorem ds_if {c : Expr} {as bs : List Stmt} (hc : DT X c ta) (ha : DSs X as f) (hb : DSs X bs g) : DS X (.If c as bs pos) (mIte ta f g) := psw (ps_if hc ha hb) fun E σ H h => by
  obtain ⟨ρ, S, m, o, er, sr, hf, q⟩ := h
  obtain ⟨p, h1, hf⟩ := obind hf
  refine ⟨ρ, S, m, p.1, p.2, er, sr, h1, fun H1 m1 x1 s1 => ?_⟩
  cases hp : p.1 with
  | true => rw [hp] at hf; exact iteT ⟨ρ, p.2, m1, o, er.mono sr x1, s1, hf, q.mono x1⟩
  | false => rw [hp] at hf; exact iteF ⟨ρ, p.2, m1, o, er.mono sr x1, s1, hf, q.mono x1⟩

/-! ### targets -/
abbrev Gm := D → Env → Option Env
abbrev Gs := List D → Env → Option Env
def tGm (vs : List Nat) (K : PySem.W.Frag) (g : Gm) : TG := fun v σ H Q => ∃ ρ m S d ρ', EnvR K H m ρ σ ∧ StR K H m S ∧ Rep K H m d v ∧ g d ρ = some ρ' ∧ ∀ σ', EnvR K H m ρ' σ' → wipe σ' vs = wipe σ vs → Q σ' H
def tGs (vs : List Nat) (K : PySem.W.Frag) (g : Gs) : TGs := fun xs σ H Q => ∃ ρ m S ds ρ', EnvR K H m ρ σ ∧ StR K H m S ∧ RepL K H m ds xs ∧ g ds ρ = some ρ' ∧ ∀ σ', EnvR K H m ρ' σ' → wipe σ' vs = wipe σ vs → Q σ' H
abbrev DG (X : Cx) (vs : List Nat) (t : Expr) (g : Gm) : Prop := PG X t (tGm vs X.K g)
structure DGs (X : Cx) (vs : List Nat) (t : List Expr) (g : Gs) : Prop where
  pg : PGs X t (tGs vs X.K g)
  len : ∀ ds ρ ρ', g ds ρ = some ρ' → ds.length = t.length
theorem pgw {t : Expr} {g g' : TG} (h : PG X t g) (w : ∀ v σ H Q, g' v σ H Q → g v σ H Q) : PG X t g' := ⟨fun pins s σ H v u Q I r q => h.run pins s σ H v u Q I r (w v σ H Q q)⟩
theorem pgsw {t : List Expr} {g g' : TGs} (h : PGs X t g) (w : ∀ v σ H Q, g' v σ H Q → g v σ H Q) : PGs X t g' := ⟨fun pins s σ H v u Q I r q => h.run pins s σ H v u Q I r (w v σ H Q q)⟩
theorem wipe_get (σ : L2.St) (j : Nat) : ∀ vs : List Nat, (wipe σ vs)[j]? = if j ∈ vs then (σ[j]?).map fun _ => none else σ[j]?
  | [] => by simp [wipe]
  | v :: vs => by
    show ((wipe σ vs).set v none)[j]? = _
    by_cases h : j = v
    · subst h
      rw [if_pos List.mem_cons_self]
      by_cases hl : j < σ.length
      · rw [List.getElem?_set_self (by rw [wipe_length]; exact hl), List.getElem?_eq_getElem hl]; rfl
      · rw [List.getElem?_eq_none (by rw [List.length_set, wipe_length]; omega), List.getElem?_eq_none (by omega)]; rfl
    · rw [List.getElem?_set_ne (Ne.symm h), wipe_get σ j vs]
      have : j ∈ v :: vs ↔ j ∈ vs := by simp [h]
      simp only [this]
theorem wipe_set {σ : L2.St} {i : Nat} {x : Option V} {vs : List Nat} (h : i ∈ vs) : wipe (σ.set i x) vs = wipe σ vs := by
  refine List.ext_getElem? fun j => ?_
  rw [wipe_get, wipe_get]
  by_cases hj : j = i
  · subst hj
    rw [if_pos h, if_pos h]
    by_cases hl : j < σ.length
    · rw [List.getElem?_set_self hl, List.getElem?_eq_getElem hl]; rfl
    · rw [List.getElem?_eq_none (by rw [List.length_set]; omega), List.getElem?_eq_none (by omega)]
  · rw [List.getElem?_set_ne (Ne.symm hj)]
def gN (i : Nat) : Gm := fun d ρ => some (ρ.set i (some d))
def gT (g : Gs) : Gm := fun d ρ => match d with | .tup ds => g ds ρ | _ => none
def gsNil : Gs := fun ds ρ => match ds with | [] => some ρ | _ => none
def gsCons (g : Gm) (h : Gs) : Gs := fun ds ρ => match ds with | d :: r => (g d ρ).bind fun ρ' => h r ρ' | [] => none
theorem dg_name (vs : List Nat) (i : Nat) {x : Str} (hN : X.N.Nodup) (hi : X.N[i]? = some x) (hx : Loc X.env.scope x) (hv : i ∈ vs) (hf : X.fn x = true ∨ X.env.scope.names.lookup x = some .local := by first | exact .inl rfl | exact .inr rfl | assumption) : DG X vs (.Name x pos) (gN i) :=
  pgw (pg_name hN hi hx hf) fun v σ H Q h => by
    obtain ⟨ρ, m, S, d, ρ', er, sr, r, hg, q⟩ := h
    cases hg
    exact q _ (er.set i (show RepO X.K H m (some d) (some v) from r)) (wipe_set hv)
theorem dgs_nil (vs : List Nat) : DGs X vs [] gsNil := by
  refine ⟨pgsw pgs_nil fun v σ H Q h => ?_, fun ds ρ ρ' h => ?_⟩
  · obtain ⟨ρ, m, S, d, ρ', er, sr, r, hg, q⟩ := h
    cases r with
    | nil => cases hg; exact ⟨rfl, q σ er rfl⟩
    | cons _ _ => cases hg
  · cases ds with
    | nil => rfl
    | cons _ _ => cases h
theorem dgs_cons {vs : List Nat} {g1 : Gm} {g2 : Gs} {es : List Expr} (h1 : DG X vs e g1) (h2 : DGs X vs es g2) (hs : (assignEach (e :: es) X.env).map (·.2) = assign e X.env :: (assignEach es X.env).map (·.2) := by rfl) : DGs X vs (e :: es) (gsCons g1 g2) :=
  ⟨pgsw (pgs_cons h1 h2.pg hs) fun v σ H Q h => by
    obtain ⟨ρ, m, S, ds, ρ', er, sr, r, hg, q⟩ := h
    cases r with
    | nil => cases hg
    | cons r rr =>
      obtain ⟨ρ1, hg1, hg⟩ := obind hg
      exact ⟨_, _, rfl, ρ, m, S, _, ρ1, er, sr, r, hg1, fun σ1 e1 w1 => ⟨ρ1, m, S, _, ρ', e1, sr, rr, hg, fun σ2 e2 w2 => q σ2 e2 (w2.trans w1)⟩⟩,
  fun ds ρ ρ' h => by
    cases ds with
    | nil => cases h
    | cons d r =>
      obtain ⟨ρ1, hg1, hg⟩ := obind h
      rw [List.length_cons, List.length_cons, h2.len _ _ _ hg]⟩
theorem dg_tup {vs : List Nat} {g : Gs} {es : List Expr} {kk n : Nat} (hc : X.calm = true) (h : DGs X vs es g) (hl : es.length = n := by rfl) (hn : (assignEach es X.env).length = n := by rfl) (hst : (assignEach es X.env).findIdx? (·.1) = none := by rfl) : DG X vs (.Tuple es kk pos) (gT g) :=
  pgw (pg_tup hc h.pg hn hst) fun v σ H Q hh => by
    obtain ⟨ρ, m, S, d, ρ', er, sr, r, hg, q⟩ := hh
    cases d with
    | tup ds =>
      cases r with
      | tup hs rs => exact ⟨_, _, rfl, hs, by rw [← rs.length, h.len _ _ _ hg]; exact hl, ρ, m, S, ds, ρ', er, sr, rs, hg, q⟩
    | _ => cases hg

/-! ### assignments -/
def mAsg (f : Ex) (g : Gm) : SM := fun ρ S => (f ρ S).bind fun p => (g p.1 ρ).bind fun ρ' => some (.nx ρ' p.2)
theorem asg_use {vs : List Nat} {gm : Gm} {E : Ends} {σ : L2.St} {H : Hp} (h : tS X.K (mAsg fa gm) E σ H) : tAsg (tE X.K fa) (tGm vs X.K gm) E σ H := by
  obtain ⟨ρ, S, m, o, er, sr, hf, q⟩ := h
  obtain ⟨p, h1, hf⟩ := obind hf
  obtain ⟨ρ', h2, hf⟩ := obind hf
  cases hf
  exact ⟨ρ, S, m, p.1, p.2, er, sr, h1, fun v H1 m1 x1 s1 r1 => ⟨ρ, m1, p.2, p.1, ρ', er.mono sr x1, s1, r1, h2, fun σ' e' _ => q σ' H1 m1 x1 s1 e'⟩⟩
theorem ds_set (i : Nat) {x : Str} {p : Pos} (hN : X.N.Nodup) (hi : X.N[i]? = some x) (hx : Loc X.env.scope x) (ha : DE X a fa) (hs : swapsWith a (some (.Name x p)) pos.line X.env = pure false := by rfl) (hf : X.fn x = true ∨ X.env.scope.names.lookup x = some .local := by first | exact .inl rfl | exact .inr rfl | assumption) :
    DS X (.Assign [.Name x p] a pos) (mAsg fa (gN i)) := psw (ps_set hN hi hx ha hs hf) fun E σ H h => by
  obtain ⟨ρ, S, m, o, er, sr, hf, q⟩ := h
  obtain ⟨p, h1, hf⟩ := obind hf
  cases hf
  exact ⟨ρ, S, m, p.1, p.2, er, sr, h1, fun v H1 m1 x1 s1 r1 => q _ H1 m1 x1 s1 ((er.mono sr x1).set i (show RepO X.K H1 m1 (some p.1) (some v) from r1))⟩
theorem ds_asg {tg : Expr} (vs : List Nat) {gm : Gm} (ha : DE X a fa) (hg : DG X vs tg gm) (hs : swapsWithSole [tg] a pos.line X.env = pure false := by rfl) (hw : swappedStores [tg] a X.env = pure none := by rfl) (h1 : (assignEach [tg] X.env).map (·.2) = [assign tg X.env] := by rfl) :
    DS X (.Assign [tg] a pos) (mAsg fa gm) := psw (ps_asg ha hg hs hw h1) fun E σ H h => asg_use h
/-- a, b = c, d with plain local names -/
def mPar (i j : Nat) (as : As) : SM := fun ρ S => (as ρ S).bind fun p => match p.1 with | [x, y] => some (.nx ((ρ.set i (some x)).set j (some y)) p.2) | _ => none
theorem ds_par (i j : Nat) {x y : Str} {px py pt pt2 : Pos} {kt k2 : Nat} (hc : X.calm = true) (hN : X.N.Nodup) (hi : X.N[i]? = some x) (hj : X.N[j]? = some y) (hij : i ≠ j) (hx : X.env.scope.names.lookup x = some .local) (hy : X.env.scope.names.lookup y = some .local) (ha : DA X [a, b] ga)
    (hw : swappedStores [.Tuple [.Name x px, .Name y py] kt pt] (.Tuple [a, b] k2 pt2) X.env = pure (some [x, y]))
    (hs : swapsWithSole [.Tuple [.Name x px, .Name y py] kt pt] (.Tuple [a, b] k2 pt2) pos.line X.env = pure false := by rfl) : DS X (.Assign [.Tuple [.Name x px, .Name y py] kt pt] (.Tuple [a, b] k2 pt2) pos) (mPar i j ga) :=
  psw (ps_par hc hN hi hj hij hx hy ha.pa hw hs) fun E σ H h => by
    obtain ⟨ρ, S, m, o, er, sr, hf, q⟩ := h
    obtain ⟨p, h1, hf⟩ := obind hf
    have hl := ha.len _ _ _ _ h1
    refine ⟨ρ, S, m, p.1, p.2, er, sr, h1, fun us H1 m1 x1 s1 r1 => ?_⟩
    generalize p.1 = l at hf hl r1
    match l, hf, r1 with
    | [d1, d2], hf, .cons r1 (.cons r2 .nil) =>
      cases hf
      exact ⟨_, _, rfl, q _ H1 m1 x1 s1 (((er.mono sr x1).set i (show RepO X.K H1 m1 (some d1) (some _) from r1)).set j (show RepO X.K H1 m1 (some d2) (some _) from r2))⟩
/-- d[k] = v -/
def mPut (fv fd fk : Ex) : SM := fun ρ S => (fv ρ S).bind fun v => (fd ρ v.2).bind fun d => (fk ρ d.2).bind fun i => match d.1 with
  | .loc n => match i.2[n]? with
    | some (.dic kvs) => (keyOf i.1).bind fun kk => if kvs.length < sizeLine then some (.nx ρ (i.2.set n (.dic (putD kvs kk v.1)))) else none
    | _ => none
  | _ => none
theorem ds_put {v o i : Expr} {fv fo fi : Ex} {p : Pos} (hr : RG k X) (ho : DE X o fo) (hi : DE X i fi) (hv : DE X v fv) (hs : swapsWith v (some (.Subscript o i p)) pos.line X.env = pure false := by rfl) : DS X (.Assign [.Subscript o i p] v pos) (mPut fv fo fi) :=
  psw (ps_dput hr.hu1 ho hi hv hs) fun E σ H h => by
    obtain ⟨ρ, S, m, oo, er, sr, hf, q⟩ := h
    obtain ⟨p1, h1, hf⟩ := obind hf
    obtain ⟨p2, h2, hf⟩ := obind hf
    obtain ⟨p3, h3, hf⟩ := obind hf
    refine ⟨ρ, S, m, p1.1, p1.2, er, sr, h1, fun u1 H1 m1 x1 s1 r1 => ⟨ρ, p1.2, m1, p2.1, p2.2, er.mono sr x1, s1, h2, fun u2 H2 m2 x2 s2 r2 => ⟨ρ, p2.2, m2, p3.1, p3.2, (er.mono sr x1).mono s1 x2, s2, h3, fun u3 H3 m3 x3 s3 r3 => ?_⟩⟩⟩
    cases hp : p2.1 with
    | loc n =>
      rw [hp] at hf r2
      simp only at hf
      cases hn : p3.2[n]? with
      | none => rw [hn] at hf; cases hf
      | some cl =>
        rw [hn] at hf
        cases cl with
        | lst _ => cases hf
        | dic kvs =>
          obtain ⟨kk, hk, hf⟩ := obind hf
          by_cases hl : kvs.length < sizeLine
          · rw [if_pos hl] at hf; cases hf
            obtain ⟨a', ks, rfl, hm, e1, rk⟩ := s3.dic (r2.mono s2 x3) hn
            have r1' := (r1.mono s1 x2).mono s2 x3
            have x4 := Ext.put (o := HO.dK (putK ks kk u1)) s3 hm
            have s4 : StR X.K (upd H3 a' (.dK (putK ks kk u1))) m3 (p3.2.set n (.dic (putD kvs kk p1.1))) :=
              s3.put hm ⟨_, upd_same, Paired.mapP (putD_rep r1' rk) fun _ _ z => ⟨z.1, z.2.mono s3 x4⟩⟩
            refine ⟨a', _, rfl, ?_, q _ _ m3 (((x1.trans x2).trans x3).trans x4) s4 ((((er.mono sr x1).mono s1 x2).mono s2 x3).mono s3 x4)⟩
            rw [keyOf_rep r3 hk]
            exact DPut.k e1 (by rw [← Paired.len rk]; exact hl)
          · rw [if_neg hl] at hf; cases hf
    | _ => rw [hp] at hf; cases hf

/-! ### what is walked -/
abbrev Im := Env → Sto → Option (List D × (Sto → Bool) × Sto)
def Walks (K : PySem.W.Frag) (J : It) (H0 : Hp) (m0 : List Addr) (ds : List D) (chk : Sto → Bool) : Prop := ∀ (H : Hp) (m : List Addr) (S : Sto) (i : Nat), Ext H0 m0 H m → StR K H m S → chk S = true →
  (∀ d, ds[i]? = some d → J.go i H ∧ ∀ x H', J.yld i H x H' → ∃ m', Ext H m H' m' ∧ StR K H' m' S ∧ Rep K H' m' d x) ∧ (ds.length ≤ i → J.stop i H)
def tI (K : PySem.W.Frag) (f : Im) : TI := fun σ H R => ∃ ρ S m ds chk S', EnvR K H m ρ σ ∧ StR K H m S ∧ f ρ S = some (ds, chk, S') ∧ ∀ J H' m', Ext H m H' m' → StR K H' m' S' → Walks K J H' m' ds chk → R J H'
abbrev DI (X : Cx) (tg iter : Expr) (f : Im) : Prop := PI X tg iter (tI X.K f)
theorem piw {tg it : Expr} {t t' : TI} (h : PI X tg it t) (w : ∀ σ H R, t' σ H R → t σ H R) : PI X tg it t' := ⟨fun pins s σ H R I q => h.run pins s σ H R I (w σ H R q)⟩
theorem PI.or {tg it : Expr} {t t' : TI} (h : PI X tg it t) (h' : PI X tg it t') : PI X tg it (fun σ H R => t σ H R ∨ t' σ H R) := ⟨fun pins s σ H R I q => q.elim (h.run pins s σ H R I) (h'.run pins s σ H R I)⟩
/-- what stays: a tuple, a locked list; a list that the body leaves as it is -/
def seqI (d : D) (S : Sto) : Option (List D × (Sto → Bool) × Sto) := match d with
  | .tup ds => some (ds, fun _ => true, S)
  | .rol ds => some (ds, fun _ => true, S)
  | .loc n => match S[n]? with
    | some (.lst ds) => some (ds, (fun S' => match S'[n]? with | some (.lst es) => decide (es = ds) | _ => false), S)
    | _ => none
  | _ => none
def mI (f : Ex) : Im := fun ρ S => (f ρ S).bind fun p => seqI p.1 p.2
theorem walks_tup {K : PySem.W.Frag} {H0 : Hp} {m0 : List Addr} {S0 : Sto} {a' : Addr} {vs : List V} {ds : List D} (s0 : StR K H0 m0 S0) (hs : SqT K H0 a' vs) (rs : RepL K H0 m0 ds vs) : Walks K (Itt K a') H0 m0 ds fun _ => true := fun H m S i x s _ => by
  have hs' := x.sqT s0 hs
  have rs' := rs.mono s0 x
  refine ⟨fun d hd => ?_, fun h => ⟨vs, hs', by rw [← rs.length]; exact h⟩⟩
  obtain ⟨v, h1, h2⟩ := rs'.get hd
  refine ⟨⟨vs, v, hs', h1⟩, fun u H' y => ?_⟩
  obtain ⟨rfl, y⟩ := y
  have := y vs hs'
  rw [h1] at this; cases this
  exact ⟨m, Ext.refl _ _, s, h2⟩
theorem walks_rol {K : PySem.W.Frag} {H0 : Hp} {m0 : List Addr} {S0 : Sto} {a' : Addr} {vs : List V} {ds : List D} (s0 : StR K H0 m0 S0) (hs : RoL K H0 a' vs) (rs : RepL K H0 m0 ds vs) : Walks K (Itl K a') H0 m0 ds fun _ => true := fun H m S i x s _ => by
  have hs' := (x.roL s0 hs).sq
  have rs' := rs.mono s0 x
  refine ⟨fun d hd => ?_, fun h => ⟨vs, hs', by rw [← rs.length]; exact h⟩⟩
  obtain ⟨v, h1, h2⟩ := rs'.get hd
  refine ⟨⟨vs, v, hs', h1⟩, fun u H' y => ?_⟩
  obtain ⟨rfl, y⟩ := y
  have := y vs hs'
  rw [h1] at this; cases this
  exact ⟨m, Ext.refl _ _, s, h2⟩
theorem walks_loc {K : PySem.W.Frag} {H0 : Hp} {m0 : List Addr} {a' : Addr} {n : Nat} {ds : List D} (hm : m0[n]? = some a') : Walks K (Itl K a') H0 m0 ds fun S' => match S'[n]? with | some (.lst es) => decide (es = ds) | _ => false := fun H m S i x s hc => by
  have hS : S[n]? = some (.lst ds) := by
    dsimp only at hc
    cases hn : S[n]? with
    | none => rw [hn] at hc; cases hc
    | some cl =>
      rw [hn] at hc
      cases cl with
      | dic _ => cases hc
      | lst es => rw [of_decide_eq_true hc]
  obtain ⟨a2, vs, ea, hm2, e1, rs⟩ := s.lst (.loc (x.pre n a' hm)) hS
  cases ea
  have hs' : SqL K H a' vs := SqL.of e1
  refine ⟨fun d hd => ?_, fun h => ⟨vs, hs', by rw [← rs.length]; exact h⟩⟩
  obtain ⟨v, h1, h2⟩ := rs.get hd
  refine ⟨⟨vs, v, hs', h1⟩, fun u H' y => ?_⟩
  obtain ⟨rfl, y⟩ := y
  have := y vs hs'
  rw [h1] at this; cases this
  exact ⟨m, Ext.refl _ _, s, h2⟩
theorem di_seq {tg : Expr} (ha : DE X a fa) : DI X tg a (mI fa) := piw (PI.or (pi_tup ha) (pi_list ha)) fun σ H R h => by
  obtain ⟨ρ, S, m, ds, chk, S', er, sr, hf, q⟩ := h
  obtain ⟨p, h1, hf⟩ := obind hf
  cases hp : p.1 with
  | tup es =>
    rw [hp] at hf; cases hf
    refine .inl ⟨ρ, S, m, p.1, p.2, er, sr, h1, fun v H1 m1 x1 s1 r1 => ?_⟩
    rw [hp] at r1
    cases r1 with
    | tup hs rs => exact ⟨_, rfl, ⟨_, hs⟩, q _ H1 m1 x1 s1 (walks_tup s1 hs rs)⟩
  | rol es =>
    rw [hp] at hf; cases hf
    refine .inr ⟨ρ, S, m, p.1, p.2, er, sr, h1, fun v H1 m1 x1 s1 r1 => ?_⟩
    rw [hp] at r1
    cases r1 with
    | rol hs rs => exact ⟨_, rfl, ⟨_, hs.sq⟩, q _ H1 m1 x1 s1 (walks_rol s1 hs rs)⟩
  | loc n =>
    rw [hp] at hf
    simp only [seqI] at hf
    cases hn : p.2[n]? with
    | none => rw [hn] at hf; cases hf
    | some cl =>
      rw [hn] at hf
      cases cl with
      | dic _ => cases hf
      | lst es =>
        cases hf
        refine .inr ⟨ρ, S, m, p.1, p.2, er, sr, h1, fun v H1 m1 x1 s1 r1 => ?_⟩
        rw [hp] at r1
        obtain ⟨a', vs, rfl, hm, e1, rs⟩ := s1.lst r1 hn
        exact ⟨a', rfl, ⟨_, SqL.of e1⟩, q _ H1 m1 x1 s1 (walks_loc hm)⟩
  | _ => rw [hp] at hf; cases hf
/-- range -/
def rngL (lo : Int) : Nat → List D
  | 0 => []
  | n + 1 => .int lo :: rngL (lo + 1) n
theorem rngL_get : ∀ (n : Nat) (lo : Int) (i : Nat) (d : D), (rngL lo n)[i]? = some d → i < n ∧ d = .int (lo + i)
  | 0, _, _, _, h => by simp [rngL] at h
  | n + 1, lo, 0, d, h => by simp [rngL] at h; subst h; simp
  | n + 1, lo, i + 1, d, h => by
    have := rngL_get n (lo + 1) i d (by simpa [rngL] using h)
    refine ⟨by omega, ?_⟩
    rw [this.2]
    congr 1
    omega
theorem rngL_len : ∀ (n : Nat) (lo : Int), (rngL lo n).length = n
  | 0, _ => rfl
  | n + 1, lo => by show (rngL (lo + 1) n).length + 1 = n + 1; rw [rngL_len n]
theorem walks_rng {K : PySem.W.Frag} {H0 : Hp} {m0 : List Addr} (lo : Int) (n : Nat) : Walks K (Itr lo n) H0 m0 (rngL lo n) fun _ => true := fun H m S i x s _ => by
  refine ⟨fun d hd => ?_, fun h => by rw [rngL_len] at h; exact h⟩
  obtain ⟨h1, rfl⟩ := rngL_get n lo i d hd
  refine ⟨h1, fun u H' y => ?_⟩
  obtain ⟨rfl, rfl⟩ := y
  exact ⟨m, Ext.refl _ _, s, .int _⟩
def rngOk (j : Int) : Bool := decide (-(2 ^ 62) ≤ j) && decide (j < 2 ^ 62)
theorem rngOk_of {j : Int} (h : rngOk j = true) : -(2 ^ 62) ≤ j ∧ j < 2 ^ 62 := by
  unfold rngOk at h
  rw [Bool.and_eq_true, decide_eq_true_eq, decide_eq_true_eq] at h
  exact h
def mR1 (as : As) : Im := fun ρ S => (as ρ S).bind fun p => match p.1 with | [.int j] => if rngOk j = true then some (rngL 0 j.toNat, fun _ => true, p.2) else none | _ => none
def mR2 (as : As) : Im := fun ρ S => (as ρ S).bind fun p => match p.1 with | [.int i, .int j] => if rngOk i = true ∧ rngOk j = true then some (rngL i (j - i).toNat, fun _ => true, p.2) else none | _ => none
theorem di_r1 {tg : Expr} {p : Pos} (hg : Gl X "range") (hm : X.mg "range" = none) (ha : DA X [a] ga) (hs : starEach [a] X.env = [(false, eval a X.env)] := by rfl) : DI X tg (.Call (.Name "range" p) [a] [] pos) (mR1 ga) := piw (pi_range1 hg hm ha.pa hs) fun σ H R h => by
  obtain ⟨ρ, S, m, ds, chk, S', er, sr, hf, q⟩ := h
  obtain ⟨p, h1, hf⟩ := obind hf
  refine ⟨ρ, S, m, p.1, p.2, er, sr, h1, fun us H1 m1 x1 s1 r1 => ?_⟩
  generalize p.1 = l at hf r1
  match l, hf, r1 with
  | [.int j], hf, .cons (.int _) .nil =>
    simp only at hf
    by_cases hj : rngOk j = true
    · rw [if_pos hj] at hf; cases hf
      exact ⟨j, rfl, (rngOk_of hj).1, (rngOk_of hj).2, q _ H1 m1 x1 s1 (walks_rng 0 j.toNat)⟩
    · rw [if_neg hj] at hf; cases hf
theorem di_r2 {tg : Expr} {p : Pos} (hg : Gl X "range") (hm : X.mg "range" = none) (ha : DA X [a, b] ga) (hs : starEach [a, b] X.env = [(false, eval a X.env), (false, eval b X.env)] := by rfl) (hs2 : starEach [b] X.env = [(false, eval b X.env)] := by rfl) : DI X tg (.Call (.Name "range" p) [a, b] [] pos) (mR2 ga) := piw (pi_range2 hg hm ha.pa hs hs2) fun σ H R h => by
  obtain ⟨ρ, S, m, ds, chk, S', er, sr, hf, q⟩ := h
  obtain ⟨p, h1, hf⟩ := obind hf
  refine ⟨ρ, S, m, p.1, p.2, er, sr, h1, fun us H1 m1 x1 s1 r1 => ?_⟩
  generalize p.1 = l at hf r1
  match l, hf, r1 with
  | [.int i, .int j], hf, .cons (.int _) (.cons (.int _) .nil) =>
    simp only at hf
    by_cases hj : rngOk i = true ∧ rngOk j = true
    · rw [if_pos hj] at hf; cases hf
      exact ⟨i, j, rfl, ⟨(rngOk_of hj.1).1, (rngOk_of hj.1).2, (rngOk_of hj.2).1, (rngOk_of hj.2).2⟩, q _ H1 m1 x1 s1 (walks_rng i _)⟩
    · rw [if_neg hj] at hf; cases hf

/-! ### for -/
def forL (g : Gm) (chk : Sto → Bool) (body : SM) : List D → Env → Sto → Option Out
  | [], ρ, S => if chk S = true then some (.nx ρ S) else none
  | d :: ds, ρ, S => if chk S = true then (g d ρ).bind fun ρ1 => (body ρ1 S).bind fun o => match o with
      | .nx ρ2 S2 => forL g chk body ds ρ2 S2
      | .ct ρ2 S2 => forL g chk body ds ρ2 S2
      | .bk ρ2 S2 => some (.nx ρ2 S2)
      | .rt d S2 => some (.rt d S2)
    else none
def mFor (it : Im) (g : Gm) (body : SM) : SM := fun ρ S => (it ρ S).bind fun p => forL g p.2.1 body p.1 ρ p.2.2
theorem ds_for {tg iter : Expr} {body : List Stmt} {fi : Im} {gm : Gm} (vs : List Nat) (hp : PassesOwn (model X.prog X.w) X.A X.env X.xe) (hc : X.calm = true) (hi : DI X tg iter fi) (hg : DG X vs tg gm) (hb : DSs X body f) (hs : ∀ x, foldedSetIterable iter X.env x = pure x := by intro _; rfl) :
    DS X (.For tg iter body [] pos) (mFor fi gm f) := psw (ps_for hp hc hi hg hb hs) fun E σ H h => by
  obtain ⟨ρ, S, m, o, er, sr, hf, q⟩ := h
  obtain ⟨p, h1, hf⟩ := obind hf
  refine ⟨ρ, S, m, p.1, p.2.1, p.2.2, er, sr, h1, fun J H1 m1 x1 s1 wk => ?_⟩
  have q1 := q.mono x1
  refine ⟨fun i c σ' H' => ∃ ρ' S' m', EnvR X.K H' m' ρ' σ' ∧ StR X.K H' m' S' ∧ Ext H1 m1 H' m' ∧ i + c = p.1.length ∧ forL gm p.2.1 f (p.1.drop i) ρ' S' = some o,
    ⟨p.1.length, ρ, p.2.2, m1, er.mono sr x1, s1, Ext.refl _ _, by omega, hf⟩, fun i c σ' H' hW => ?_⟩
  obtain ⟨ρ', S', m', er', sr', x', hl, hf'⟩ := hW
  by_cases hlt : i < p.1.length
  · rw [List.drop_eq_getElem_cons hlt] at hf'
    have hck : p.2.1 S' = true := by
      by_cases hck : p.2.1 S' = true
      · exact hck
      · simp only [forL, if_neg hck] at hf'; cases hf'
    simp only [forL, if_pos hck] at hf'
    obtain ⟨ρ1, g1, hf'⟩ := obind hf'
    obtain ⟨ob, b1, hf'⟩ := obind hf'
    obtain ⟨hgo, hyl⟩ := (wk H' m' S' i x' sr' hck).1 _ (List.getElem?_eq_getElem hlt)
    refine .inr ⟨hgo, fun σ2 H2 => ∃ ρ2 S2 m2, EnvR X.K H2 m2 ρ2 σ2 ∧ StR X.K H2 m2 S2 ∧ Ext H1 m1 H2 m2 ∧ forL gm p.2.1 f (p.1.drop (i + 1)) ρ2 S2 = some o, fun σ2 H2 hN => ?_, fun x H2 y => ?_⟩
    · obtain ⟨ρ2, S2, m2, a1, a2, a3, a4⟩ := hN
      exact ⟨c - 1, by omega, ρ2, S2, m2, a1, a2, a3, by omega, a4⟩
    · obtain ⟨m2, x2, s2, r2⟩ := hyl x H2 y
      refine ⟨ρ', m2, S', _, ρ1, er'.mono sr' x2, s2, r2, g1, fun σ3 e3 _ => ⟨ρ1, S', m2, ob, e3, s2, b1, ?_⟩⟩
      have xx := x'.trans x2
      cases ob with
      | nx ρ3 S3 => exact fun σ4 H4 m4 x4 s4 e4 => ⟨ρ3, S3, m4, e4, s4, xx.trans x4, hf'⟩
      | ct ρ3 S3 => exact fun σ4 H4 m4 x4 s4 e4 => ⟨ρ3, S3, m4, e4, s4, xx.trans x4, hf'⟩
      | bk ρ3 S3 => cases hf'; exact fun σ4 H4 m4 x4 s4 e4 => q1 σ4 H4 m4 (xx.trans x4) s4 e4
      | rt d3 S3 => cases hf'; exact fun v4 H4 m4 x4 s4 r4 => q1 v4 H4 m4 (xx.trans x4) s4 r4
  · rw [List.drop_eq_nil_of_le (by omega)] at hf'
    have hck : p.2.1 S' = true := by
      by_cases hck : p.2.1 S' = true
      · exact hck
      · simp only [forL, if_neg hck] at hf'; cases hf'
    simp only [forL, if_pos hck] at hf'
    cases hf'
    exact .inl ⟨(wk H' m' S' i x' sr' hck).2 (by omega), q1 σ' H' m' x' sr' er'⟩

/-! ### comprehensions -/
def mYes : Tx := fun _ S => some (true, S)
abbrev DTs (X : Cx) (ifs : List Expr) (t : Tx) : Prop := PTs X ifs (tT X.K t)
theorem dts_nil : DTs X [] mYes := ⟨fun pins s σ H Q I h => pts_nil.run pins s σ H Q I (by
  obtain ⟨ρ, S, m, b, S', er, sr, hf, q⟩ := h
  cases hf
  exact q H m (Ext.refl _ _) sr)⟩
theorem dts_one {c : Expr} (h : DT X c ta) : DTs X [c] ta := pts_one h
def compL (g : Gm) (chk : Sto → Bool) (t : Tx) (elt : Ex) (ρ : Env) : List D → List D → Sto → Option (List D × Sto)
  | [], acc, S => if chk S = true then some (acc, S) else none
  | d :: ds, acc, S => if chk S = true then (g d ρ).bind fun ρ1 => (t ρ1 S).bind fun b => if b.1 = true then (elt ρ1 b.2).bind fun y => if acc.length < sizeLine then compL g chk t elt ρ ds (acc ++ [y.1]) y.2 else none
      else compL g chk t elt ρ ds acc b.2
    else none
def wipeE (ρ : Env) : List Nat → Env
  | [] => ρ
  | v :: vs => (wipeE ρ vs).set v none
def mComp (vs : List Nat) (it : Im) (g : Gm) (t : Tx) (elt : Ex) : Ex := fun ρ S => (it ρ S).bind fun p => (compL g p.2.1 t elt (wipeE ρ vs) p.1 [] p.2.2).bind fun q => some (.loc q.2.length, q.2 ++ [.lst q.1])
theorem wipeE_rep {K : PySem.W.Frag} {H : Hp} {m : List Addr} {ρ : Env} {σ : L2.St} (h : EnvR K H m ρ σ) : ∀ vs : List Nat, EnvR K H m (wipeE ρ vs) (wipe σ vs)
  | [] => h
  | v :: vs => (wipeE_rep h vs).set v trivial
theorem comp_use {vs : List Nat} {fi : Im} {gm : Gm} {tt : Tx} {fe : Ex} {σ : L2.St} {H : Hp} {Q : VK} {K : PySem.W.Frag} (h : tE K (mComp vs fi gm tt fe) σ H Q) : tLc (tI K fi) (tGm vs K gm) (tT K tt) (tE K fe) vs σ H Q := by
  obtain ⟨ρ, S, m, d, S', er, sr, hf, q⟩ := h
  obtain ⟨p, h1, hf⟩ := obind hf
  obtain ⟨pf, h2, hf⟩ := obind hf
  cases hf
  refine ⟨ρ, S, m, p.1, p.2.1, p.2.2, er, sr, h1, fun J H1 m1 x1 s1 wk Dd hD => ?_⟩
  have hDm : Dd ∉ m1 := s1.out hD
  have e1 := er.mono sr x1
  refine ⟨fun i c H' => ∃ acc vs' S' m', StR K H' m' S' ∧ Ext H1 m1 H' m' ∧ H' Dd = some (.lst vs') ∧ RepL K H' m' acc vs' ∧ Dd ∉ m' ∧ i + c = p.1.length ∧ compL gm p.2.1 tt fe (wipeE ρ vs) (p.1.drop i) acc S' = some pf,
    ⟨p.1.length, [], [], p.2.2, m1, s1.new1 hD, Ext.new1 hD, upd_same, .nil, hDm, by omega, h2⟩, fun i c H' hW => ?_⟩
  obtain ⟨acc, vs', S', m', sr', x', hd', ra, hn', hl, hf'⟩ := hW
  by_cases hlt : i < p.1.length
  · rw [List.drop_eq_getElem_cons hlt] at hf'
    have hck : p.2.1 S' = true := by
      by_cases hck : p.2.1 S' = true
      · exact hck
      · simp only [compL, if_neg hck] at hf'; cases hf'
    simp only [compL, if_pos hck] at hf'
    obtain ⟨ρ1, g1, hf'⟩ := obind hf'
    obtain ⟨bb, b1, hf'⟩ := obind hf'
    obtain ⟨hgo, hyl⟩ := (wk H' m' S' i x' sr' hck).1 _ (List.getElem?_eq_getElem hlt)
    refine .inr ⟨hgo, fun H2 => ∃ acc2 vs2 S2 m2, StR K H2 m2 S2 ∧ Ext H1 m1 H2 m2 ∧ H2 Dd = some (.lst vs2) ∧ RepL K H2 m2 acc2 vs2 ∧ Dd ∉ m2 ∧ compL gm p.2.1 tt fe (wipeE ρ vs) (p.1.drop (i + 1)) acc2 S2 = some pf, fun H2 hN => ?_, fun x H2 y => ?_⟩
    · obtain ⟨acc2, vs2, S2, m2, a1, a2, a3, a4, a5, a6⟩ := hN
      exact ⟨c - 1, by omega, acc2, vs2, S2, m2, a1, a2, a3, a4, a5, by omega, a6⟩
    · obtain ⟨m2, x2, s2, r2⟩ := hyl x H2 y
      have out : ∀ {Ha Hb : Hp} {ma mb : List Addr}, Ha Dd = some (.lst vs') → Dd ∉ ma → Ext Ha ma Hb mb → Hb Dd = some (.lst vs') ∧ Dd ∉ mb := fun {Ha Hb ma mb} h1 h2 z => ⟨z.keep Dd _ h1 h2, fun hm => by
        rw [z.new Dd hm h2] at h1; cases h1⟩
      obtain ⟨d2, n2⟩ := out hd' hn' x2
      have ew : EnvR K H2 m2 (wipeE ρ vs) (wipe σ vs) := wipeE_rep ((e1.mono s1 x').mono sr' x2) vs
      refine ⟨wipeE ρ vs, m2, S', _, ρ1, ew, s2, r2, g1, fun σ3 e3 w3 => ⟨?_, ρ1, S', m2, bb.1, bb.2, e3, s2, b1, fun H4 m4 x4 s4 => ?_⟩⟩
      · rw [w3]
        refine List.ext_getElem? fun j => ?_
        rw [wipe_get, wipe_get]
        by_cases hj : j ∈ vs
        · rw [if_pos hj, if_pos hj]
          cases σ[j]? <;> rfl
        · rw [if_neg hj]
      · obtain ⟨d4, n4⟩ := out d2 n2 x4
        have xx := (x'.trans x2).trans x4
        cases hb : bb.1 with
        | false =>
          rw [hb] at hf'
          exact iteF ⟨acc, vs', bb.2, m4, s4, xx, d4, (ra.mono sr' x2).mono s2 x4, n4, hf'⟩
        | true =>
          rw [hb] at hf'
          obtain ⟨yy, y1, hf'⟩ := obind hf'
          refine iteT ⟨ρ1, bb.2, m4, yy.1, yy.2, e3.mono s2 x4, s4, y1, fun v H5 m5 x5 s5 r5 => ?_⟩
          obtain ⟨d5, n5⟩ := out d4 n4 x5
          by_cases hz : acc.length < sizeLine
          · rw [if_pos hz] at hf'
            have ra5 := ((ra.mono sr' x2).mono s2 x4).mono s4 x5
            have xx5 := xx.trans x5
            refine ⟨vs', d5, by rw [← ra.length]; exact hz, acc ++ [yy.1], _, yy.2, m5, s5.off d5 (flex_lst _) n5, ⟨xx5.pre, fun b ob hb1 hb2 => ?_, xx5.new⟩, upd_same, ?_, n5, hf'⟩
            · rw [upd_ne (ne_of_none hb1 hD)]
              exact xx5.keep b ob hb1 hb2
            · exact (ra5.app (.cons r5 .nil)).off d5 (flex_lst _)
          · rw [if_neg hz] at hf'; cases hf'
  · rw [List.drop_eq_nil_of_le (by omega)] at hf'
    have hck : p.2.1 S' = true := by
      by_cases hck : p.2.1 S' = true
      · exact hck
      · simp only [compL, if_neg hck] at hf'; cases hf'
    simp only [compL, if_pos hck] at hf'
    cases hf'
    refine .inl ⟨(wk H' m' S' i x' sr' hck).2 (by omega), ?_⟩
    have hpre : ∀ (n : Nat) (a : Addr), m'[n]? = some a → (m' ++ [Dd])[n]? = some a := fun n a e => by rw [List.getElem?_append_left (List.getElem?_eq_some_iff.mp e).1]; exact e
    have xf : Ext H1 m1 H' (m' ++ [Dd]) := ⟨fun n a e => hpre n a (x'.pre n a e), x'.keep, fun a ha hna => by
      rcases List.mem_append.mp ha with z | z
      · exact x'.new a z hna
      · rw [List.mem_singleton.mp z]; exact hD⟩
    refine q _ H' (m' ++ [Dd]) (x1.trans xf) (sr'.adopt hn' ⟨vs', hd', ra⟩) (.loc ?_)
    rw [← sr'.len, List.getElem?_concat_length]
theorem de_comp {elt tg iter : Expr} {ifs : List Expr} {scope : Scope} (own : List (Str × Nat)) {fi : Im} {gm : Gm} {tt : Tx} {fe : Ex} (vs : List Nat) (hv : own.map (·.2) = vs) (hc : X.calm = true) (hN : X.N.Nodup) (hi : DI X tg iter fi) (ok : blkC X.N X.env.scope scope own = true)
    (hg : ∀ (s : Shared) (H : Hp) (C : Addr) (cl : List (Str × Addr)) (fp : List Addr), DG (X.blk s H scope (compEnvC scope cl C X.env) fp) vs tg gm) (ht : ∀ (s : Shared) (H : Hp) (C : Addr) (cl : List (Str × Addr)) (fp : List Addr), DTs (X.blk s H scope (compEnvC scope cl C X.env) fp) ifs tt)
    (he : ∀ (s : Shared) (H : Hp) (C : Addr) (cl : List (Str × Addr)) (fp : List Addr), DE (X.blk s H scope (compEnvC scope cl C X.env) fp) elt fe) (hs : ∀ x, foldedSetIterable iter X.env x = pure x := by intro _; rfl) :
    DE X (.ListComp elt [⟨tg, iter, ifs, 0⟩] scope pos) (mComp vs fi gm tt fe) := by
  subst hv
  exact pew (pe_lc hc hN hi (blkOk_by ok) hg ht he hs) fun σ H Q h => comp_use h
theorem ds_comp (i : Nat) {y : Str} {py spos : Pos} {elt tg iter : Expr} {ifs : List Expr} {scope : Scope} (own : List (Str × Nat)) {fi : Im} {gm : Gm} {tt : Tx} {fe : Ex} (vs : List Nat) (hv : own.map (·.2) = vs) (hc : X.calm = true) (hN : X.N.Nodup) (hy : X.N[i]? = some y) (hyl : X.env.scope.names.lookup y = some .local)
    (hsw : swapsWith (.ListComp elt [⟨tg, iter, ifs, 0⟩] scope pos) (some (.Name y py)) spos.line X.env = pure true) (hi : DI X tg iter fi) (ok : blkC X.N X.env.scope scope own = true)
    (hg : ∀ (s : Shared) (H : Hp) (C : Addr) (cl : List (Str × Addr)) (fp : List Addr), DG (X.blk s H scope (compEnvC scope cl C X.env) fp) vs tg gm) (ht : ∀ (s : Shared) (H : Hp) (C : Addr) (cl : List (Str × Addr)) (fp : List Addr), DTs (X.blk s H scope (compEnvC scope cl C X.env) fp) ifs tt)
    (he : ∀ (s : Shared) (H : Hp) (C : Addr) (cl : List (Str × Addr)) (fp : List Addr), DE (X.blk s H scope (compEnvC scope cl C X.env) fp) elt fe) (hs : ∀ x, foldedSetIterable iter X.env x = pure x := by intro _; rfl) :
    DS X (.Assign [.Name y py] (.ListComp elt [⟨tg, iter, ifs, 0⟩] scope pos) spos) (mAsg (mComp vs fi gm tt fe) (gN i)) := by
  subst hv
  refine psw (ps_setLc (i := i) (wi := tI X.K fi) (g := tGm (own.map (·.2)) X.K gm) (tt := tT X.K tt) (te := tE X.K fe) hc hN hy hyl hsw hi (blkOk_by ok) hg ht he hs) fun E σ H h => ?_
  obtain ⟨ρ, S, m, o, er, sr, hf, q⟩ := h
  obtain ⟨p, h1, hf⟩ := obind hf
  cases hf
  exact comp_use (Q := fun x H1 => gName i x σ H1 E.nx) ⟨ρ, S, m, p.1, p.2, er, sr, h1, fun v H1 m1 x1 s1 r1 => q _ H1 m1 x1 s1 ((er.mono sr x1).set i (show RepO X.K H1 m1 (some p.1) (some v) from r1))⟩
end
end DD

/-! enumerate of tuples, sorted pairs, dicts made, ranges as lists. -/
namespace DD
open PySem PySem.Spec PyProof.Rows L2

/-! ### enumerate -/
theorem enum_new1 {v : Value} {ob : Obj} {P0 : Heap → Prop} (B : Begins v ob P0) :
    Meets (Builtin.«enumerate.__new__» ⟨[.type "enumerate", v], []⟩) (fun _ R s => P0 s.heap ∧
      R (.ok (.ret (.ref (s.heap.push ob).objs.size))) { s with heap := (s.heap.push ob).push { cls := .type "enumerate", data := .fields #[.none, .bool false, .ref s.heap.objs.size, rawInt 0, .none, .none] } }) :=
  .of_wp fun prog w A R s hh => by
    obtain ⟨h0, gg, dd, tt, oo⟩ := s
    obtain ⟨ha, hb⟩ := hh
    have hsub := sub_enumerate
    have qq : ∀ {A' : Around} {E : Value → Shared → Prop} {Q : Value → Shared → Prop}, Q (.ref h0.objs.size) ⟨h0.push ob, gg, dd, tt, oo⟩ → wpAny (model prog w) A' (pyIter v) Q E ⟨h0, gg, dd, tt, oo⟩ := fun z => B.iter prog w _ _ ⟨h0, gg, dd, tt, oo⟩ _ ha z
    wp_walk using qq
    refine wpAny_stack_any fun stk => wpAny_pure ?_
    split
    · rename_i c0 _ _ _ _ _
      cases (c0 == Value.type "enumerate") <;> (wp_walk using qq; exact ⟨_, rfl, hb⟩)
    · wp_walk using qq; exact ⟨_, rfl, hb⟩
section
variable {prog : Program} {w : World} {A : Around} {E : Value → Shared → Prop} {s : Shared}
theorem call_enum1 {v : Value} {ob : Obj} {P0 : Heap → Prop} {Q : Value → Shared → Prop} (B : Begins v ob P0) (h0 : P0 s.heap)
    (hq : ∀ h', IsEnum h' (s.heap.objs.size + 1) s.heap.objs.size 0 .none → h'.get? s.heap.objs.size = some ob → (∀ b o, s.heap.get? b = some o → h'.get? b = some o) → Q (.ref (s.heap.objs.size + 1)) { s with heap := h' }) :
    wpAny (model prog w) A (call (.type "enumerate") [v]) Q E s := by
  have hz : (s.heap.push ob).objs.size = s.heap.objs.size + 1 := Heap.size_push ..
  refine callType_new F.called_enumerate (by decide) (F.typeCall_enumerate_1 _) (F.newCall_enumerate_1 _) (fun obj => F.args_object_init_2 obj _) F.entry_enumerate_new (enum_new1 B) ⟨h0, ?_⟩
  have he : IsEnum ((s.heap.push ob).push { cls := .type "enumerate", data := .fields #[.none, .bool false, .ref s.heap.objs.size, rawInt 0, .none, .none] }) (s.heap.objs.size + 1) s.heap.objs.size 0 .none := by
    have z := Heap.get?_push_size (s.heap.push ob) (o := { cls := .type "enumerate", data := .fields #[.none, .bool false, .ref s.heap.objs.size, rawInt 0, .none, .none] }) rfl
    rw [hz] at z; exact z
  have fin := hq _ he (Heap.get?_push_of_some _ (Heap.get?_push_size _ B.free)) fun b o z => Heap.get?_push_of_some _ (Heap.get?_push_of_some _ z)
  show _ ∧ _
  rw [hz]
  exact ⟨⟨_, he, rfl⟩, fin⟩
end
/-- the tuple at a, its items with their numbers -/
def IteT (K : PySem.W.Frag) (a : Addr) : It :=
  ⟨fun i H => ∃ (xs : List V) (x : V), SqT K H a xs ∧ xs[i]? = some x, fun i H v H' => ∃ T x, v = .ref T ∧ H T = none ∧ H' = upd H T (.tup [.int (i : Nat), x]) ∧ ∀ xs, SqT K H a xs → xs[i]? = some x, fun i H => ∃ xs : List V, SqT K H a xs ∧ xs.length ≤ i⟩
theorem turn_enumT {P : Program} {w : World} {K : PySem.W.Frag} {elts : List Expr} {kk : Nat} {tpos : Pos} (a e it : Addr) :
    Turn P w K (.Tuple elts kk tpos) (IteT K a) [e, it] e (fun i h => (∃ old, IsEnum h e it ((i : Nat) : Int) old) ∧ h.IsTupleIter it a i ∧ e ≠ it ∧ a ≠ it ∧ a ≠ e) where
  mem := by simp
  obj := fun i h st b hb => by
    obtain ⟨⟨old, hen⟩, hit, _⟩ := st
    obtain ⟨o, ho, _, hd⟩ := hit
    have e' : b = e ∨ b = it := by simpa using hb
    rcases e' with z | z
    · rw [z]; exact ⟨_, hen, fun v q => by cases q⟩
    · rw [z]; exact ⟨o, ho, fun v q => by rw [hd] at q; cases q⟩
  keep := fun i h h' st k => by
    obtain ⟨⟨old, hen⟩, hit, hne, h1, h2⟩ := st
    exact ⟨⟨old, k e (by simp) _ hen⟩, hit.at fun o q => k it (by simp) o q, hne, h1, h2⟩
  item := by
    intro X hP hw hK hc i pins s σ H E I hf st hg
    subst hP hw hK
    obtain ⟨⟨old, hen⟩, hit, hne, hai, hae⟩ := st
    obtain ⟨xs, x, hq, hx⟩ := hg
    obtain ⟨its, rv, p, hz⟩ := I.tuple hq
    obtain ⟨u, hu, ru⟩ := rv.get hx
    have hel : e < s.heap.objs.size := Heap.lt_size hen
    have hil : it < s.heap.objs.size := by obtain ⟨_, q, _⟩ := hit; exact Heap.lt_size q
    have hd0 : X.A.in1.handled = none := I.ok.hd hc
    have hlt : i < its.toArray.size := by rw [List.size_toArray]; exact (List.getElem?_eq_some_iff.mp hu).1
    refine wpAny_pyNext_enum_itemD (Draws.tuple hd0 it a hai its.toArray) hen ⟨hit, p⟩ hlt hne (by simp [hne, Ne.symm hae]) fun y h' tk hy ho st' hT hsz hk => ?_
    have hyu : y = u := by
      have z : its[i]? = some y := by simpa using hy
      rw [hu] at z; exact (Option.some.inj z).symm
    subst hyu
    refine ⟨_, rfl, wpAny_letOwnedTupleGo_enum (s := { s with heap := h', toks := tk + 1 }) ho fun h'' he' sb => ?_⟩
    have hT2 : h''.get? s.heap.objs.size = some { cls := .type "tuple", data := .seq #[.int i tk, y] } := (sb.2 _ (Nat.ne_of_gt hel)).trans hT
    have nw : ObjOk X.prog X.w (upd H s.heap.objs.size (.tup [.int (i : Nat), x])) h'' s.heap.objs.size (.tup [.int (i : Nat), x]) := by
      refine ⟨by show 2 ≤ sizeLine; decide, [.int i tk, y], .cons ⟨_, rfl⟩ (.cons ru .nil), ⟨_, hT2, rfl, _, rfl⟩⟩
    have I1 : Inv X pins σ (upd H s.heap.objs.size (.tup [.int (i : Nat), x])) { s with heap := h'', toks := tk + 1 } := by
      refine I.turnedNew (ch := [e, it]) (fun b ob hb q => ?_) hf (Nat.le_refl _) nw
      have b1 : b ≠ e := fun z => hb (by simp [z])
      have b2 : b ≠ it := fun z => hb (by simp [z])
      exact (sb.2 b b1).trans (hk b ob b1 b2 q)
    refine ⟨.ref s.heap.objs.size, _, I1, rfl, ⟨_, x, rfl, I.hok.fresh (Nat.le_refl _), rfl, fun ys hy => by rw [I.tuple_inj hy hq]; exact hx⟩, ⟨⟨y, ?_⟩, st'.1.at fun o q => (sb.2 it (Ne.symm hne)).trans q, hne, hai, hae⟩, fun b hb => ?_⟩
    · rw [show ((i + 1 : Nat) : Int) = (i : Int) + 1 by omega]; exact he'
    · have hb' : b < s.heap.objs.size := by
        have e' : b = e ∨ b = it := by simpa using hb
        rcases e' with z | z <;> (rw [z]; assumption)
      rw [upd_ne (Nat.ne_of_lt hb')]
      exact (hf b hb).1
  done := by
    intro X hP hw hK hc i pins s σ H E I hf st hg
    subst hP hw hK
    obtain ⟨⟨old, hen⟩, hit, hne, hai, hae⟩ := st
    obtain ⟨xs, hq, hx⟩ := hg
    obtain ⟨its, rv, p, hz⟩ := I.tuple hq
    obtain ⟨f0, f1, f2, f3, f4, f5⟩ := hf it (by simp)
    have hl := rv.length
    have hd0 : X.A.in1.handled = none := I.ok.hd hc
    have D : Draws X.prog X.w X.A.in1 it [it, a] i (fun _ _ => True) (fun j h => j = i ∧ h.IsTupleIter it a i ∧ h.IsTuple a its.toArray) := by
      refine ⟨fun _ _ st => let ⟨o, ho, _⟩ := st.2.1; ⟨o, ho⟩, fun _ _ _ st hk => ⟨st.1, st.2.1.at fun o e => hk it (by simp) o e, st.2.2.at fun o e => hk a (by simp) o e⟩, fun j s' Q E' hj st hQ => ?_, fun s' Q E' st hE => ?_⟩
      · have := st.1; omega
      · exact wpAny_nextOf_tuple_end hd0 st.2.1 st.2.2 (by simp; omega) hE
    exact wpAny_pyNext_enum_endD D hen ⟨rfl, hit, p⟩ fun h' eb => ⟨rfl, I.turned (t' := s.toks) (fun b o hb q => eb b o hb q) f0 f1 f3 f4 f5⟩
  self := fun A i s Q E st h => by
    obtain ⟨⟨_, hen⟩, _⟩ := st
    exact wpAny_pyIter_enum hen h
/-- enumerate(e), e a list or a tuple -/
def iEnumA (K : PySem.W.Frag) (ta : TA) : TI := fun σ H R => ta σ H fun vs H1 => ∃ a xs, vs = [.ref a] ∧ SqT K H1 a xs ∧ R (IteT K a) H1
theorem pi_enumT {X : Cx} {e : Expr} {ta : TA} {p pos tpos : Pos} {elts : List Expr} {kk : Nat} (hg : Gl X "enumerate") (hm : X.mg "enumerate" = none) (ha : PA X [e] ta) (hs : starEach [e] X.env = [(false, eval e X.env)] := by rfl) :
    PI X (.Tuple elts kk tpos) (.Call (.Name "enumerate" p) [e] [] pos) (iEnumA X.K ta) := by
  refine ⟨fun pins s σ H R I h => Call_ (ld_blt I hg hm boot_enumerate (PyProof.Rows.callWith_type1 (thn (ha.run pos pins s σ H _ I h) fun us s1 hs1 => ?_) hs rfl))⟩
  obtain ⟨vs, H1, I1, r1, a, xs, rfl, hq, q⟩ := hs1
  obtain ⟨u, rfl, ru⟩ := vals1 r1
  cases ru
  obtain ⟨its, rv, p', hz⟩ := I1.tuple hq
  have pT : s1.heap.IsTuple a its.toArray := p'
  refine call_enum1 (begins_tuple a its.toArray) pT fun h' he hit hk => wpAny_pyIter_enum he ?_
  have I2 : Inv X pins σ H1 { s1 with heap := h' } := I1.kept (t' := s1.toks) hk
  have hlt : a < s1.heap.objs.size := p'.lt
  refine ⟨s1.heap.objs.size + 1, [s1.heap.objs.size + 1, s1.heap.objs.size], _, _, H1, rfl, I2, turn_enumT a (s1.heap.objs.size + 1) s1.heap.objs.size, ⟨⟨.none, he⟩, ⟨_, hit, rfl, rfl⟩, Nat.succ_ne_self _, Nat.ne_of_lt hlt, Nat.ne_of_lt (Nat.lt_succ_of_lt hlt)⟩, fun b hb => ?_, q⟩
  have hle : s1.heap.objs.size ≤ b := by
    rcases (show b = s1.heap.objs.size + 1 ∨ b = s1.heap.objs.size by simpa using hb) with z | z
    · rw [z]; exact Nat.le_succ _
    · rw [z]; exact Nat.le_refl _
  exact I1.fpOk hle (I1.hok.fresh hle)
def numL : Nat → List D → List D
  | _, [] => []
  | n, d :: ds => .tup [.int n, d] :: numL (n + 1) ds
theorem numL_get : ∀ (ds : List D) (n i : Nat) (d : D), (numL n ds)[i]? = some d → ∃ e, ds[i]? = some e ∧ d = .tup [.int ((n + i : Nat) : Int), e]
  | [], _, _, _, h => by simp [numL] at h
  | e :: ds, n, 0, d, h => by simp [numL] at h; exact ⟨e, rfl, h.symm⟩
  | e :: ds, n, i + 1, d, h => by
    obtain ⟨e', h1, h2⟩ := numL_get ds (n + 1) i d (by simpa [numL] using h)
    exact ⟨e', by simpa using h1, by rw [h2, show n + 1 + i = n + (i + 1) by omega]⟩
theorem numL_len : ∀ (ds : List D) (n : Nat), (numL n ds).length = ds.length
  | [], _ => rfl
  | e :: ds, n => by show (numL (n + 1) ds).length + 1 = _; rw [numL_len ds, List.length_cons]
def enumI (d : D) (S : Sto) : Option (List D × (Sto → Bool) × Sto) := (seqI d S).bind fun p => some (numL 0 p.1, p.2.1, p.2.2)
def mEnum (as : As) : Im := fun ρ S => (as ρ S).bind fun p => match p.1 with | [d] => enumI d p.2 | _ => none
theorem pair_new {K : PySem.W.Frag} {H : Hp} {m : List Addr} {S : Sto} {T : Addr} {d : D} {x : V} {i : Nat} (s : StR K H m S) (hT : H T = none) (r : Rep K H m d x) :
    ∃ m', Ext H m (upd H T (.tup [.int (i : Nat), x])) m' ∧ StR K (upd H T (.tup [.int (i : Nat), x])) m' S ∧ Rep K (upd H T (.tup [.int (i : Nat), x])) m' (.tup [.int ((0 + i : Nat) : Int), d]) (.ref T) := by
  refine ⟨m, Ext.new1 hT, s.new1 hT, .tup (SqT.of upd_same) (.cons ?_ (.cons (r.mono s (Ext.new1 hT)) .nil))⟩
  rw [show (0 + i : Nat) = i by omega]
  exact .int _
section
variable {X : Cx} {e : Expr} {ga : As} {pos : Pos} {k : Nat}
theorem walks_numT {K : PySem.W.Frag} {H0 : Hp} {m0 : List Addr} {S0 : Sto} {a' : Addr} {vs : List V} {ds : List D} (s0 : StR K H0 m0 S0) (hs : SqT K H0 a' vs) (rs : RepL K H0 m0 ds vs) : Walks K (IteT K a') H0 m0 (numL 0 ds) fun _ => true := fun H m S i x s _ => by
  have hs' := x.sqT s0 hs
  have rs' := rs.mono s0 x
  refine ⟨fun d hd => ?_, fun h => ⟨vs, hs', by rw [numL_len, rs.length] at h; exact h⟩⟩
  obtain ⟨e', h1, rfl⟩ := numL_get ds 0 i d hd
  obtain ⟨v, h2, h3⟩ := rs'.get h1
  refine ⟨⟨vs, v, hs', h2⟩, fun u H' y => ?_⟩
  obtain ⟨T, x0, rfl, hT, rfl, hy⟩ := y
  have hz := hy vs hs'
  rw [h2] at hz; cases hz
  exact pair_new s hT h3
theorem walks_numL {K : PySem.W.Frag} {H0 : Hp} {m0 : List Addr} {a' : Addr} {ds : List D} {chk : Sto → Bool} (hL : ∀ (H : Hp) (m : List Addr) (S : Sto), Ext H0 m0 H m → StR K H m S → chk S = true → ∃ vs, SqL K H a' vs ∧ RepL K H m ds vs) : Walks K (Ite K a') H0 m0 (numL 0 ds) chk := fun H m S i x s hc => by
  obtain ⟨vs, hs', rs'⟩ := hL H m S x s hc
  refine ⟨fun d hd => ?_, fun h => ⟨vs, hs', by rw [numL_len, rs'.length] at h; exact h⟩⟩
  obtain ⟨e', h1, rfl⟩ := numL_get ds 0 i d hd
  obtain ⟨v, h2, h3⟩ := rs'.get h1
  refine ⟨⟨vs, v, hs', h2⟩, fun u H' y => ?_⟩
  obtain ⟨T, x0, rfl, hT, rfl, hy⟩ := y
  have hz := hy vs hs'
  rw [h2] at hz; cases hz
  exact pair_new s hT h3
theorem di_enum {p tpos : Pos} {elts : List Expr} {kk : Nat} (hg : Gl X "enumerate") (hm : X.mg "enumerate" = none) (ha : DA X [e] ga) (hs : starEach [e] X.env = [(false, eval e X.env)] := by rfl) : DI X (.Tuple elts kk tpos) (.Call (.Name "enumerate" p) [e] [] pos) (mEnum ga) := piw (PI.or (pi_enumT hg hm ha.pa hs) (pi_enum hg hm ha.pa hs)) fun σ H R h => by
  obtain ⟨ρ, S, m, ds, chk, S', er, sr, hf, q⟩ := h
  obtain ⟨p, h1, hf⟩ := obind hf
  have hlen := ha.len _ _ _ _ h1
  obtain ⟨d1, hp⟩ : ∃ d1, p.1 = [d1] := by
    match hz : p.1, hlen with
    | [d1], _ => exact ⟨d1, rfl⟩
  rw [hp] at hf
  obtain ⟨pf, h2, hf⟩ := obind hf
  cases hf
  cases d1 with
  | tup es =>
    cases h2
    refine .inl ⟨ρ, S, m, p.1, p.2, er, sr, h1, fun us H1 m1 x1 s1 r1 => ?_⟩
    rw [hp] at r1
    cases r1 with
    | cons r1 r2 =>
      cases r2
      cases r1 with
      | tup hs rs => exact ⟨_, _, rfl, hs, q _ H1 m1 x1 s1 (walks_numT s1 hs rs)⟩
  | rol es =>
    cases h2
    refine .inr ⟨ρ, S, m, p.1, p.2, er, sr, h1, fun us H1 m1 x1 s1 r1 => ?_⟩
    rw [hp] at r1
    cases r1 with
    | cons r1 r2 =>
      cases r2
      cases r1 with
      | rol hs rs => exact ⟨_, _, rfl, hs.sq, q _ H1 m1 x1 s1 (walks_numL fun H m S x _ _ => ⟨_, (x.roL s1 hs).sq, rs.mono s1 x⟩)⟩
  | loc n =>
    simp only [seqI] at h2
    cases hn : p.2[n]? with
    | none => rw [hn] at h2; cases h2
    | some cl =>
      rw [hn] at h2
      cases cl with
      | dic _ => cases h2
      | lst es =>
        cases h2
        refine .inr ⟨ρ, S, m, p.1, p.2, er, sr, h1, fun us H1 m1 x1 s1 r1 => ?_⟩
        rw [hp] at r1
        cases r1 with
        | cons r1 r2 =>
          cases r2
          obtain ⟨a', vs, rfl, hm', e1, rs⟩ := s1.lst r1 hn
          refine ⟨a', vs, rfl, SqL.of e1, q _ H1 m1 x1 s1 (walks_numL fun H m S x s hc => ?_)⟩
          have hS : S[n]? = some (.lst es) := by
            dsimp only at hc
            cases hn' : S[n]? with
            | none => rw [hn'] at hc; cases hc
            | some cl =>
              rw [hn'] at hc
              cases cl with
              | dic _ => cases hc
              | lst es' => rw [of_decide_eq_true hc]
          obtain ⟨a2, vs2, ea, _, e2, rs2⟩ := s.lst (.loc (x.pre n a' hm')) hS
          cases ea
          exact ⟨vs2, SqL.of e2, rs2⟩
  | _ => cases h2

/-! ### dicts made -/
/-- {'a': x, 'b': y}: two texts that differ -/
def mDict2 (k1 k2 : Str) (f1 f2 : Ex) : Ex := fun ρ S => (f1 ρ S).bind fun p => (f2 ρ p.2).bind fun q => some (.loc q.2.length, q.2 ++ [.dic [(.inr k1, p.1), (.inr k2, q.1)]])
theorem de_dict2 {a b : Expr} {fa fb : Ex} {k1 k2 : Str} {j1 j2 : Nat} {p1 p2 : Pos} (hne : k1 ≠ k2) (ha : DE X a fa) (hb : DE X b fb) : DE X (.Dict [some (.Constant (.str k1) j1 p1), some (.Constant (.str k2) j2 p2)] [a, b] pos) (mDict2 k1 k2 fa fb) :=
  pew (pe_disp (pps_cons pe_str ha (pps_cons pe_str hb pps_nil)) rfl rfl (by intro z; cases z) (show 2 ≤ 15 by decide)) fun σ H Q h => by
    obtain ⟨ρ, S, m, d, S', E, st, hf, q⟩ := h
    obtain ⟨p, h1, hf⟩ := obind hf
    obtain ⟨r, h2, hf⟩ := obind hf
    cases hf
    intro Dd hD
    refine ⟨ρ, S, m, p.1, p.2, E.mono st (Ext.new1 hD), st.new1 hD, h1, fun v H1 m1 x1 s1 r1 => ⟨ρ, p.2, m1, r.1, r.2, (E.mono st (Ext.new1 hD)).mono (st.new1 hD) x1, s1, h2, fun u H2 m2 x2 s2 r2 => ?_⟩⟩
    have hn0 : Dd ∉ m := st.out hD
    have out : ∀ {Ha Hb : Hp} {ma mb : List Addr}, Ha Dd = some (.dK []) → Dd ∉ ma → Ext Ha ma Hb mb → Hb Dd = some (.dK []) ∧ Dd ∉ mb := fun {Ha Hb ma mb} h1 h2 z => ⟨z.keep Dd _ h1 h2, fun hm => by
      rw [z.new Dd hm h2] at h1; cases h1⟩
    obtain ⟨d1, n1⟩ := out (upd_same (H := H)) hn0 x1
    obtain ⟨d2, n2⟩ := out d1 n1 x2
    refine ⟨d2, [(.inr k1, v), (.inr k2, u)], rfl, (show 2 ≤ 15 by decide), ?_⟩
    have em : mergeK [] [((Sum.inr k1 : Key), v), (Sum.inr k2, u)] = [((Sum.inr k1 : Key), v), (Sum.inr k2, u)] := by
      show putK (putK [] (Sum.inr k1 : Key) v) (Sum.inr k2) u = _
      have e1 : putK [] (Sum.inr k1 : Key) v = [(.inr k1, v)] := rfl
      rw [e1]
      unfold putK
      rw [if_neg (by simp [hne])]
      rfl
    rw [em]
    have x3 : Ext H m (upd H2 Dd (.dK [(.inr k1, v), (.inr k2, u)])) (m2 ++ [Dd]) := by
      have xx := ((Ext.new1 (m := m) (o := HO.dK []) hD).trans x1).trans x2
      refine ⟨fun n a e => ?_, fun a o e hna => ?_, fun a ha hna => ?_⟩
      · have z := xx.pre n a e
        rw [List.getElem?_append_left (List.getElem?_eq_some_iff.mp z).1]; exact z
      · rw [upd_ne (ne_of_none e hD)]; exact xx.keep a o e hna
      · rcases List.mem_append.mp ha with z | z
        · exact xx.new a z hna
        · rw [List.mem_singleton.mp z]; exact hD
    have rv := r1.mono s1 x2
    have cell : CellOk X.K (upd H2 Dd (.dK [(.inr k1, v), (.inr k2, u)])) m2 Dd (.dic [(.inr k1, p.1), (.inr k2, r.1)]) :=
      ⟨_, upd_same, .cons ⟨rfl, rv.off d2 (flex_dK _)⟩ (.cons ⟨rfl, r2.off d2 (flex_dK _)⟩ .nil)⟩
    refine q _ _ _ x3 ((s2.off d2 (flex_dK _) n2).adopt n2 cell) (.loc ?_)
    rw [← s2.len, List.getElem?_concat_length]

/-! ### list(range(..)) -/
abbrev Rm := Env → Sto → Option (Int × Int × Sto)
def tRm (K : PySem.W.Frag) (f : Rm) : L2.St → Hp → (Int → Int → Hp → Prop) → Prop := fun σ H Q => ∃ ρ S m a b S', EnvR K H m ρ σ ∧ StR K H m S ∧ f ρ S = some (a, b, S') ∧ ∀ H' m', Ext H m H' m' → StR K H' m' S' → Q a b H'
def mRg1 (f : Ex) : Rm := fun ρ S => (f ρ S).bind fun p => match p.1 with | .int j => some (0, j, p.2) | _ => none
def mRg2 (f g : Ex) : Rm := fun ρ S => (f ρ S).bind fun p => (g ρ p.2).bind fun q => match p.1, q.1 with | .int i, .int j => some (i, j, q.2) | _, _ => none
def mListRg (f : Rm) : Ex := fun ρ S => (f ρ S).bind fun p => if rngOk p.1 = true ∧ rngOk p.2.1 = true ∧ (p.2.1 - p.1).toNat ≤ 2 ^ 24 then some (.loc p.2.2.length, p.2.2 ++ [.lst (rngL p.1 (p.2.1 - p.1).toNat)]) else none
theorem repL_rg {K : PySem.W.Frag} {H : Hp} {m : List Addr} : ∀ (n : Nat) (lo : Int) (k : Nat), RepL K H m (rngL (lo + (k : Nat)) n) ((List.range' k n).map fun i => V.int (lo + (i : Nat)))
  | 0, _, _ => .nil
  | n + 1, lo, k => by
    show RepL K H m (D.int (lo + (k : Nat)) :: rngL (lo + (k : Nat) + 1) n) _
    rw [List.range'_succ, List.map_cons]
    refine .cons (.int _) ?_
    have := repL_rg (K := K) (H := H) (m := m) n lo (k + 1)
    rw [show lo + ((k + 1 : Nat) : Int) = lo + (k : Nat) + 1 by omega] at this
    exact this
theorem repL_rgV {K : PySem.W.Frag} {H : Hp} {m : List Addr} (a b : Int) : RepL K H m (rngL a (b - a).toNat) (rgV a b) := by
  have := repL_rg (K := K) (H := H) (m := m) (b - a).toNat a 0
  unfold rgV
  rw [List.range_eq_range']
  simpa using this
theorem de_listRg {e2 : Expr} {fr : Rm} {te : L2.St → Hp → (Int → Int → Hp → Prop) → Prop} {p : Pos} (hc : X.calm = true) (hg : Gl X "list") (hm : X.mg "list" = none) (he : PRg X e2 te) (w : ∀ σ H Q, tRm X.K fr σ H Q → te σ H Q) (na : starEach [e2] X.env = (false, eval e2 X.env) :: starEach [] X.env := by rfl) :
    DE X (.Call (.Name "list" p) [e2] [] pos) (mListRg fr) := pew (pe_listRg hc hg hm he na) fun σ H Q h => by
  obtain ⟨ρ, S, m, d, S', E, st, hf, q⟩ := h
  obtain ⟨p, h1, hf⟩ := obind hf
  by_cases hc : rngOk p.1 = true ∧ rngOk p.2.1 = true ∧ (p.2.1 - p.1).toNat ≤ 2 ^ 24
  · rw [if_pos hc] at hf; cases hf
    refine w σ H _ ⟨ρ, S, m, p.1, p.2.1, p.2.2, E, st, h1, fun H1 m1 x1 s1 => ⟨⟨(rngOk_of hc.1).1, (rngOk_of hc.1).2, (rngOk_of hc.2.1).1, (rngOk_of hc.2.1).2, hc.2.2⟩, fun l hl => ?_⟩⟩
    obtain ⟨q1, q2, q3⟩ := newL s1 (repL_rgV p.1 p.2.1) hl
    exact q _ _ _ (x1.trans q1) q2 q3
  · rw [if_neg hc] at hf; cases hf
theorem use_rg1 {fa : Ex} {σ : L2.St} {H : Hp} {Q : Int → Int → Hp → Prop} {K : PySem.W.Frag} (h : tRm K (mRg1 fa) σ H Q) : tRg1 (tE K fa) σ H Q := by
  obtain ⟨ρ, S, m, a, b, S', E, st, hf, q⟩ := h
  obtain ⟨p, h1, hf⟩ := obind hf
  refine ⟨ρ, S, m, p.1, p.2, E, st, h1, fun v H1 m1 x1 s1 r1 => ?_⟩
  generalize p.1 = d at hf r1
  match d, hf, r1 with
  | .int j, hf, .int _ => cases hf; exact ⟨_, rfl, q H1 m1 x1 s1⟩
theorem use_rg2 {fa fb : Ex} {σ : L2.St} {H : Hp} {Q : Int → Int → Hp → Prop} {K : PySem.W.Frag} (h : tRm K (mRg2 fa fb) σ H Q) : tRg2 (tE K fa) (tE K fb) σ H Q := by
  obtain ⟨ρ, S, m, a, b, S', E, st, hf, q⟩ := h
  obtain ⟨p, h1, hf⟩ := obind hf
  obtain ⟨r, h2, hf⟩ := obind hf
  refine ⟨ρ, S, m, p.1, p.2, E, st, h1, fun v H1 m1 x1 s1 r1 => ⟨ρ, p.2, m1, r.1, r.2, E.mono st x1, s1, h2, fun u H2 m2 x2 s2 r2 => ?_⟩⟩
  generalize p.1 = d at hf r1
  generalize r.1 = d' at hf r2
  match d, d', hf, r1, r2 with
  | .int i, .int j, hf, .int _, .int _ => cases hf; exact ⟨_, _, rfl, rfl, q H2 m2 (x1.trans x2) s2⟩
theorem de_listRg1 {a : Expr} {fa : Ex} {p p2 pos2 : Pos} (hc : X.calm = true) (hg : Gl X "list") (hm : X.mg "list" = none) (hg2 : Gl X "range") (hm2 : X.mg "range" = none) (ha : DE X a fa) (na : starEach [a] X.env = (false, eval a X.env) :: starEach [] X.env := by rfl) :
    DE X (.Call (.Name "list" p) [.Call (.Name "range" p2) [a] [] pos2] [] pos) (mListRg (mRg1 fa)) := de_listRg hc hg hm (prg_1 hg2 hm2 ha na) fun _ _ _ h => use_rg1 h
theorem de_listRg2 {a b : Expr} {fa fb : Ex} {p p2 pos2 : Pos} (hc : X.calm = true) (hg : Gl X "list") (hm : X.mg "list" = none) (hg2 : Gl X "range") (hm2 : X.mg "range" = none) (ha : DE X a fa) (hb : DE X b fb) (na : starEach [a, b] X.env = (false, eval a X.env) :: starEach [b] X.env := by rfl) (nb : starEach [b] X.env = (false, eval b X.env) :: starEach [] X.env := by rfl)
    (hp : (backTo pos2 (starEach [b] X.env)).any (·.1) = false := by rfl) : DE X (.Call (.Name "list" p) [.Call (.Name "range" p2) [a, b] [] pos2] [] pos) (mListRg (mRg2 fa fb)) := de_listRg hc hg hm (prg_2 hg2 hm2 ha hb na nb hp) fun _ _ _ h => use_rg2 h
end
end DD

/-! sorted(..) of pairs of an int and a text. -/
namespace DD
open PySem PySem.Spec PyProof.Rows L2 SrtO

def strLt (x y : Str) : Bool := decide (x.cps.toList < y.cps.toList)
theorem strLt_asym {x y : Str} (h : strLt x y = true) : strLt y x = false := by
  unfold strLt at *
  rw [decide_eq_true_eq] at h
  exact decide_eq_false (List.lt_asymm h)
theorem strLt_tr {x y z : Str} (h1 : strLt y x = false) (h2 : strLt z y = false) : strLt z x = false := by
  unfold strLt at *
  rw [decide_eq_false_iff_not] at *
  rw [List.not_lt] at *
  exact List.le_trans h1 h2
theorem strLt_irr (x : Str) : strLt x x = false := decide_eq_false (List.lt_irrefl _)
abbrev KS := Int × Str
def ltS (p q : KS) : Bool := if p.1 = q.1 then strLt p.2 q.2 else decide (p.1 < q.1)
theorem ltS_eq {p q : KS} (h : p.1 = q.1) : ltS p q = strLt p.2 q.2 := if_pos h
theorem ltS_ne {p q : KS} (h : p.1 ≠ q.1) : ltS p q = decide (p.1 < q.1) := if_neg h
theorem swoS : Swo ltS := by
  refine ⟨fun x y h => ?_, fun x y z h1 h2 => ?_⟩
  · by_cases e : x.1 = y.1
    · rw [ltS_eq e] at h; rw [ltS_eq e.symm]; exact strLt_asym h
    · rw [ltS_ne e, decide_eq_true_eq] at h; rw [ltS_ne (Ne.symm e)]; exact decide_eq_false (by omega)
  · by_cases e1 : y.1 = x.1
    · by_cases e2 : z.1 = y.1
      · rw [ltS_eq e1] at h1; rw [ltS_eq e2] at h2; rw [ltS_eq (e2.trans e1)]; exact strLt_tr h1 h2
      · rw [ltS_ne e2, decide_eq_false_iff_not] at h2
        rw [ltS_ne (by omega)]; exact decide_eq_false (by omega)
    · rw [ltS_ne e1, decide_eq_false_iff_not] at h1
      by_cases e2 : z.1 = y.1
      · rw [ltS_ne (by omega)]; exact decide_eq_false (by omega)
      · rw [ltS_ne e2, decide_eq_false_iff_not] at h2
        rw [ltS_ne (by omega)]; exact decide_eq_false (by omega)

/-! ### a stable sorting of one's own -/
section
variable {α : Type} {lt : α → α → Bool}
def ins (lt : α → α → Bool) (x : α) : List α → List α
  | [] => [x]
  | y :: l => if lt y x = true then y :: ins lt x l else x :: y :: l
def isort (lt : α → α → Bool) : List α → List α
  | [] => []
  | x :: l => ins lt x (isort lt l)
theorem ins_mem {x y : α} : ∀ {l : List α}, y ∈ ins lt x l ↔ y = x ∨ y ∈ l
  | [] => by simp [ins]
  | z :: l => by
    unfold ins
    split
    · simp only [List.mem_cons, ins_mem (l := l)]
      constructor
      · rintro (h | h | h)
        · exact .inr (.inl h)
        · exact .inl h
        · exact .inr (.inr h)
      · rintro (h | h | h)
        · exact .inr (.inl h)
        · exact .inl h
        · exact .inr (.inr h)
    · simp only [List.mem_cons]
theorem ins_srtd (O : Swo lt) {x : α} : ∀ {l : List α}, Srtd lt l → Srtd lt (ins lt x l)
  | [], _ => List.pairwise_singleton _ _
  | z :: l, h => by
    obtain ⟨h1, h2⟩ := List.pairwise_cons.mp h
    unfold ins
    split
    · rename_i hz
      refine List.pairwise_cons.mpr ⟨fun w hw => ?_, ins_srtd O h2⟩
      rcases ins_mem.mp hw with rfl | hw
      · exact O.asym _ _ hz
      · exact h1 w hw
    · rename_i hz
      have hz' : lt z x = false := by simpa using hz
      refine List.pairwise_cons.mpr ⟨fun w hw => ?_, h⟩
      rcases List.mem_cons.mp hw with rfl | hw
      · exact hz'
      · exact O.tr x z w hz' (h1 w hw)
theorem ins_stb (O : Swo lt) {x : α} : ∀ {l : List α}, Stb lt (ins lt x l) (x :: l)
  | [] => Stb.refl _
  | z :: l => by
    unfold ins
    split
    · rename_i hz
      have a : Stb lt (z :: ins lt x l) (z :: x :: l) := (Stb.refl [z]).app (ins_stb O)
      have b : Stb lt ([z] ++ [x]) ([x] ++ [z]) := Stb.swap O fun p hp q hq => by
        rw [List.mem_singleton.mp hp, List.mem_singleton.mp hq]; exact hz
      exact a.trans (b.app (Stb.refl l))
    · exact Stb.refl _
theorem isort_srtd (O : Swo lt) : ∀ l : List α, Srtd lt (isort lt l)
  | [] => List.Pairwise.nil
  | x :: l => ins_srtd O (isort_srtd O l)
theorem isort_stb (O : Swo lt) : ∀ l : List α, Stb lt (isort lt l) l
  | [] => Stb.refl _
  | x :: l => (ins_stb O).trans ((Stb.refl [x]).app (isort_stb O l))
/-- what is sorted and stable is this one -/
theorem isort_uniq (O : Swo lt) {l m : List α} (h1 : Srtd lt m) (h2 : Stb lt m l) : m = isort lt l :=
  stb_uniq O h1 (isort_srtd O l) (h2.trans ⟨(isort_stb O l).perm.symm, fun x => ((isort_stb O l).cls x).symm⟩)
theorem ins_map {β : Type} (f : β → α) (x : β) : ∀ l : List β, (ins (fun a b => lt (f a) (f b)) x l).map f = ins lt (f x) (l.map f)
  | [] => rfl
  | y :: l => by
    unfold ins
    rw [List.map_cons]
    by_cases h : lt (f y) (f x) = true
    · simp only [h, if_true, List.map_cons]
      rw [ins_map f x l]
    · simp only [h, if_false, List.map_cons, Bool.false_eq_true]
end

/-! ### the rule -/
section
variable {prog : Program} {w : World} {A : Around} {E : Value → Shared → Prop} {s : Shared}
def IsKS (h : Heap) (v : Value) (k : KS) : Prop := ∃ a o t u n, v = .ref a ∧ h.get? a = some o ∧ o.cls = .type "tuple" ∧ o.data = .seq #[.int k.1 t, .str k.2 u] n
theorem IsKS.keeps {h h' : Heap} {v : Value} {k : KS} (p : IsKS h v k) (q : ∀ b o, h.get? b = some o → o.cls = .type "tuple" → h'.get? b = some o) : IsKS h' v k := by
  obtain ⟨a, o, t, u, n, e, ho, hc, hd⟩ := p
  exact ⟨a, o, t, u, n, e, q _ _ ho hc, hc, hd⟩
theorem ks_firsts {h : Heap} {k : Value → KS} : ∀ {vs : List Value}, (∀ v ∈ vs, IsKS h v (k v)) → ∃ fs : List Value, PySem.W.KatTups h vs fs ∧ fs.length = vs.length ∧ ∀ f ∈ fs, ∃ x t, f = Value.int x t
  | [], _ => ⟨[], .nil, rfl, fun _ hm => by simp at hm⟩
  | v :: vs, hp => by
    obtain ⟨fs, h1, h2, h3⟩ := ks_firsts (vs := vs) fun v' hm => hp v' (List.mem_cons_of_mem _ hm)
    obtain ⟨a, o, t, u, n, e, ho, hc, hd⟩ := hp v List.mem_cons_self
    subst e
    refine ⟨.int (k (.ref a)).1 t :: fs, .cons ho hc hd rfl h1, by rw [List.length_cons, List.length_cons, h2], fun f hm => ?_⟩
    rcases List.mem_cons.mp hm with rfl | hm
    · exact ⟨_, t, rfl⟩
    · exact h3 f hm
theorem ks_cmp {vs : List Value} {k : Value → KS} (hp : ∀ v ∈ vs, IsKS s.heap v (k v)) : Cmp prog w A s (tuples' true) (fun p => p.1 ∈ vs) (lt2 fun v u => ltS (k v) (k u)) := by
  intro p q hm hm'
  have h1 := hp _ hm
  have h2 := hp _ hm'
  show wpAny (model prog w) A (keyLt' (tuples' true) p.1 q.1) (fun r s' => s' = s ∧ r = ltS (k p.1) (k q.1)) (fun _ _ => False) s
  generalize k p.1 = x at h1 ⊢
  generalize k q.1 = y at h2 ⊢
  obtain ⟨a, o, t, u, n, e, ho, hc, hd⟩ := h1
  obtain ⟨a', o', t', u', n', e', ho', hc', hd'⟩ := h2
  rw [e, e']
  refine PySem.W.kat_lt ho hd ho' hd' ?_
  show PySem.W.KatLex prog w A true (decide (2 < 2)) _ [(.int x.1 t, .int y.1 t'), (.str x.2 u, .str y.2 u')] 0 s
  refine PySem.W.kat_cons (SeqAt.EqAt.int_int x.1 t y.1 t' prog w _ _ (PySem.W.kat_go (fun e1 => ?_) (fun e1 => ?_)))
  · have ex : x.1 = y.1 := by simpa using e1
    refine PySem.W.kat_yes (PySem.W.kat_cons (SeqAt.EqAt.str_str x.2 u y.2 u' prog w _ _ (PySem.W.kat_go (fun e2 => ?_) (fun e2 => ?_))))
    · have ey : x.2 = y.2 := by simpa using e2
      exact PySem.W.kat_yes (PySem.W.kat_nil ⟨rfl, by rw [ltS_eq ex, ey, strLt_irr]; rfl⟩)
    · refine PySem.W.kat_no (PySem.W.kat_one _ _ (PyProof.Rows.lt_str ?_))
      exact (show s = s ∧ decide (x.2.cps.toList < y.2.cps.toList) = ltS x y from ⟨rfl, (ltS_eq ex).symm⟩)
  · have ex : ¬ x.1 = y.1 := by simpa using e1
    exact PySem.W.kat_no (oneLt_int ⟨rfl, (ltS_ne ex).symm⟩)
theorem swo_on {α β : Type} {lt : β → β → Bool} (O : Swo lt) (f : α → β) : Swo fun a b => lt (f a) (f b) := ⟨fun x y => O.asym _ _, fun x y z => O.tr _ _ _⟩
theorem sorted_ks {l : Addr} {vs : List Value} {k : Value → KS} {Q : Value → Shared → Prop} (hl : s.heap.IsList l vs.toArray) (hz : vs.length ≤ sizeLine) (hp : ∀ v ∈ vs, IsKS s.heap v (k v))
    (h : ∀ (h' : Heap) (d : Addr), (∀ b o, s.heap.get? b = some o → h'.get? b = some o) → s.heap.objs.size ≤ d → (∃ n, h'.get? d = some (seqObj "list" (isort (fun v u => ltS (k v) (k u)) vs).toArray n)) → Q (.ref d) { s with heap := h' }) :
    wpAny (model prog w) A (call (.builtin "sorted") [.ref l]) Q E s := by
  have O := swo_on swoS k
  refine sorted_ord O hl hz (fun h2 h₁ a ha kk => ?_) fun out hs hb => ?_
  · intro h' keep
    have ht : ∀ o, h₁.get? a = some o → o.cls ≠ .type "tuple" := fun o e c => by
      have e' : some o = some (seqObj "list" vs.toArray 0) := e.symm.trans ha
      cases e'
      exact absurd (Value.type.inj c) (by decide)
    have hp' : ∀ v ∈ vs, IsKS h' v (k v) := fun v hm => (hp v hm).keeps fun b o e c => by
      obtain ⟨_, e2⟩ := kk b o e
      exact keep b o (fun z => by subst z; exact ht o e2 c) e2
    obtain ⟨fs, f1, f2, f3⟩ := ks_firsts hp'
    refine ⟨tuples' true, fun Q E hq => ?_, ks_cmp hp'⟩
    refine PySem.W.kat_kind (T := .type "int") f1 (by omega) (fun f hm => ?_) (by rfl) ?_
    · obtain ⟨x, t, rfl⟩ := f3 f hm
      exact PySem.W.Looks.now
    · rw [show (Value.type "int" != Value.type "tuple") = true by decide +kernel]
      exact hq
  · rw [isort_uniq O hs hb]
    exact h _ _ (fun b o e => sortedAll_old e) (Nat.le_succ _) (sortedAll_at s.heap vs _)
end

section
variable {α β : Type}
theorem isort_map {lt : α → α → Bool} (f : β → α) : ∀ l : List β, isort lt (l.map f) = (isort (fun a b => lt (f a) (f b)) l).map f
  | [] => rfl
  | x :: l => by
    show ins lt (f x) (isort lt (l.map f)) = _
    rw [isort_map f l, ← ins_map]
    rfl
theorem isort_mem {lt : α → α → Bool} {x : α} : ∀ {l : List α}, x ∈ isort lt l ↔ x ∈ l
  | [] => Iff.rfl
  | y :: l => by
    show x ∈ ins lt y (isort lt l) ↔ _
    rw [ins_mem, isort_mem (l := l), List.mem_cons]
theorem ins_congr {lt lt' : α → α → Bool} {x : α} : ∀ {l : List α}, (∀ a ∈ l, lt a x = lt' a x) → ins lt x l = ins lt' x l
  | [], _ => rfl
  | y :: l, h => by
    unfold ins
    rw [h y List.mem_cons_self, ins_congr fun a ha => h a (List.mem_cons_of_mem _ ha)]
theorem isort_congr {lt lt' : α → α → Bool} : ∀ {l : List α}, (∀ a ∈ l, ∀ b ∈ l, lt a b = lt' a b) → isort lt l = isort lt' l
  | [], _ => rfl
  | x :: l, h => by
    show ins lt x (isort lt l) = ins lt' x (isort lt' l)
    rw [isort_congr (l := l) fun a ha b hb => h a (List.mem_cons_of_mem _ ha) b (List.mem_cons_of_mem _ hb)]
    exact ins_congr fun a ha => h a (List.mem_cons_of_mem _ (isort_mem.mp ha)) x List.mem_cons_self
end
def keyS : D → Option KS
  | .tup [.int i, .str x] => some (i, x)
  | _ => none
def keyS0 (d : D) : KS := (keyS d).getD (0, Str.empty)
abbrev byS (a b : D) : Bool := ltS (keyS0 a) (keyS0 b)
def sortD : Op1 := fun d S => (lstOf S d).bind fun ds => if ds.all (fun x => (keyS x).isSome) = true then some (.loc S.length, S ++ [.lst (isort byS ds)]) else none
def rSortS (K : PySem.W.Frag) : List V → Hp → VK → Prop := fun vs H Q => ∃ (a : Addr) (Z : List (V × KS)), vs = [V.ref a] ∧ SqL K H a (Z.map (·.1)) ∧ (∀ z ∈ Z, ∃ t, z.1 = .ref t ∧ SqT K H t [.int z.2.1, .str z.2.2]) ∧
  ∀ p, H p = none → Q (.ref p) (upd H p (.lst ((isort (fun x y => ltS x.2 y.2) Z).map (·.1))))
theorem isKS_fun {h : Heap} {v : Value} {k k' : KS} (a : IsKS h v k) (b : IsKS h v k') : k = k' := by
  obtain ⟨x, o, t, u, n, e, ho, hc, hd⟩ := a
  obtain ⟨x', o', t', u', n', e', ho', hc', hd'⟩ := b
  rw [e] at e'
  cases e'
  rw [ho] at ho'
  cases ho'
  rw [hd] at hd'
  injection hd' with h1 _
  have h2 : [Value.int k.1 t, Value.str k.2 u] = [Value.int k'.1 t', Value.str k'.2 u'] := by simpa using congrArg Array.toList h1
  injection h2 with h3 h4
  injection h4 with h5 _
  injection h3 with h6 _
  injection h5 with h7 _
  exact Prod.ext h6 h7
open Classical in
noncomputable def keyV (h : Heap) (v : Value) : KS := if e : ∃ k, IsKS h v k then choose e else (0, Str.empty)
theorem keyV_eq {h : Heap} {v : Value} {k : KS} (a : IsKS h v k) : keyV h v = k := by
  unfold keyV
  have e : ∃ k, IsKS h v k := ⟨k, a⟩
  rw [dif_pos e]
  exact isKS_fun (Classical.choose_spec e) a
section
variable {X : Cx} {e : Expr} {ga : As} {pos : Pos} {k : Nat}
theorem zip_of : ∀ {Z : List (V × KS)} {us : List Value}, Vals (Z.map (·.1)) us → ∃ W : List (V × KS × Value), Z = W.map (fun w => (w.1, w.2.1)) ∧ us = W.map (·.2.2) ∧ ∀ w ∈ W, RelV w.1 w.2.2
  | [], _, .nil => ⟨[], rfl, rfl, fun _ h => by cases h⟩
  | z :: Z, _, .cons (b := u) r t => by
    obtain ⟨W, h1, h2, h3⟩ := zip_of t
    refine ⟨(z.1, z.2, u) :: W, by rw [List.map_cons, ← h1], by rw [List.map_cons, ← h2], fun w hw => ?_⟩
    rcases List.mem_cons.mp hw with rfl | hw
    · exact r
    · exact h3 w hw
theorem vals_map {α : Type} {f : α → V} {g : α → Value} : ∀ {l : List α}, (∀ a ∈ l, RelV (f a) (g a)) → Vals (l.map f) (l.map g)
  | [], _ => .nil
  | a :: l, h => .cons (h a List.mem_cons_self) (vals_map fun b hb => h b (List.mem_cons_of_mem _ hb))
theorem call_sortS : CallR X (.builtin "sorted") (rSortS X.K) := by
  intro pins s σ H vs us Q I r h
  obtain ⟨a, Z, rfl, hs, hZ, q⟩ := h
  obtain ⟨its, rv, hl, hz⟩ := I.list hs
  obtain ⟨u, rfl, ru⟩ := vals1 r
  obtain rfl : u = Value.ref a := ru
  obtain ⟨W, rfl, rfl, hW⟩ := zip_of rv
  have hk : ∀ w ∈ W, IsKS s.heap w.2.2 w.2.1 := fun w hw => by
    obtain ⟨t, et, ht⟩ := hZ (w.1, w.2.1) (List.mem_map.mpr ⟨w, hw, rfl⟩)
    have rw' := hW w hw
    have et' : w.1 = .ref t := et
    rw [et'] at rw'
    obtain ⟨its2, r2, ⟨o, ho, hc, n, hd⟩, _⟩ := I.tuple ht
    obtain ⟨u1, u2, rfl, ri, rj⟩ := vals2 r2
    obtain ⟨t1, rfl⟩ := ri
    obtain ⟨t2, rfl⟩ := rj
    exact ⟨t, o, t1, t2, n, rw', ho, hc, hd⟩
  have zz : (W.map (·.2.2)).length ≤ sizeLine := by simpa using hz
  refine sorted_ks (k := keyV s.heap) hl.isList zz (fun v hv => ?_) fun h' d kp hd hn => ?_
  · obtain ⟨w, hw, rfl⟩ := List.mem_map.mp hv
    rw [keyV_eq (hk w hw)]
    exact hk w hw
  · obtain ⟨n, hn⟩ := hn
    rw [isort_map, isort_congr (lt' := fun a b => ltS a.2.1 b.2.1) (fun x hx y hy => by rw [keyV_eq (hk x hx), keyV_eq (hk y hy)])] at hn
    have e1 : (isort (fun x y : V × KS => ltS x.2 y.2) (W.map fun w => (w.1, w.2.1))).map (·.1) = (isort (fun a b : V × KS × Value => ltS a.2.1 b.2.1) W).map (·.1) := by
      rw [isort_map, List.map_map]; rfl
    have fin := q d (I.hok.fresh hd)
    rw [e1] at fin
    have pm := (isort_stb (swo_on swoS fun w : V × KS × Value => w.2.1) W).perm.length_eq
    refine ⟨.ref d, upd H d (.lst ((isort (fun a b : V × KS × Value => ltS a.2.1 b.2.1) W).map (·.1))), I.laid (t' := s.toks) kp hd ⟨?_, _, n, vals_map fun w hw => hW w (isort_mem.mp hw), hn⟩, rfl, fin⟩
    rw [List.length_map, pm]
    simpa using zz
theorem pairs_of {K : PySem.W.Frag} {H : Hp} {m : List Addr} : ∀ {ds : List D} {vs : List V}, RepL K H m ds vs → ∃ L : List (D × V), ds = L.map (·.1) ∧ vs = L.map (·.2) ∧ ∀ p ∈ L, Rep K H m p.1 p.2
  | _, _, .nil => ⟨[], rfl, rfl, fun _ h => by cases h⟩
  | _, _, .cons (d := d) (v := v) r t => by
    obtain ⟨L, h1, h2, h3⟩ := pairs_of t
    refine ⟨(d, v) :: L, by rw [List.map_cons, ← h1], by rw [List.map_cons, ← h2], fun w hw => ?_⟩
    rcases List.mem_cons.mp hw with rfl | hw
    · exact r
    · exact h3 w hw
theorem repL_map {K : PySem.W.Frag} {H : Hp} {m : List Addr} {α : Type} {f : α → D} {g : α → V} : ∀ {l : List α}, (∀ a ∈ l, Rep K H m (f a) (g a)) → RepL K H m (l.map f) (l.map g)
  | [], _ => .nil
  | a :: l, h => .cons (h a List.mem_cons_self) (repL_map fun b hb => h b (List.mem_cons_of_mem _ hb))
theorem o1_sort {K : PySem.W.Frag} : Op1D K (rSortS K) sortD := by
  intro H m S x d d' S' Q s r h q
  obtain ⟨ds, h1, h⟩ := obind h
  by_cases hc : ds.all (fun x => (keyS x).isSome) = true
  · rw [if_pos hc] at h; cases h
    obtain ⟨a, vs, rfl, hs, rs⟩ := lstOf_rep s r h1
    obtain ⟨L, rfl, rfl, hL⟩ := pairs_of rs
    refine ⟨a, L.map fun p => (p.2, keyS0 p.1), rfl, by rw [List.map_map]; exact hs, fun z hz => ?_, fun p hp => ?_⟩
    · obtain ⟨p, hp, rfl⟩ := List.mem_map.mp hz
      have hk : (keyS p.1).isSome = true := List.all_eq_true.mp hc _ (List.mem_map.mpr ⟨p, hp, rfl⟩)
      have hr := hL p hp
      show ∃ t, p.2 = .ref t ∧ SqT K H t [.int (keyS0 p.1).1, .str (keyS0 p.1).2]
      generalize p.1 = dd at hk hr ⊢
      generalize p.2 = vv at hr ⊢
      unfold keyS0
      unfold keyS at hk ⊢
      split at hk
      · cases hr with
        | tup ht rs =>
          cases rs with
          | cons a1 a2 =>
            cases a2 with
            | cons b1 b2 => cases b2; cases a1; cases b1; exact ⟨_, rfl, ht⟩
      · cases hk
    · have e1 : (isort (fun x y : V × KS => ltS x.2 y.2) (L.map fun p => (p.2, keyS0 p.1))).map (·.1) = (isort (fun a b : D × V => byS a.1 b.1) L).map (·.2) := by
        rw [isort_map, List.map_map]; rfl
      have e2 : isort byS (L.map (·.1)) = (isort (fun a b : D × V => byS a.1 b.1) L).map (·.1) := isort_map _ _
      rw [e1]
      have rr : RepL K H m (isort byS (L.map (·.1))) ((isort (fun a b : D × V => byS a.1 b.1) L).map (·.2)) := by
        rw [e2]
        exact repL_map fun p hp => hL p (isort_mem.mp hp)
      obtain ⟨q1, q2, q3⟩ := newL s rr hp
      exact q _ _ _ q1 q2 q3
  · rw [if_neg hc] at h; cases h
theorem de_sorted {p : Pos} (hg : Gl X "sorted") (hm : X.mg "sorted" = none) (ha : DA X [e] ga) (he : starEach [e] X.env = (false, eval e X.env) :: starEach [] X.env := by rfl) : DE X (.Call (.Name "sorted" p) [e] [] pos) (m1 sortD ga) :=
  de_b1 call_sortS o1_sort hg hm (by decide +kernel) ha (by decide) (by decide) he
end
end DD

/-! What stands at the top: defs as they are called. -/
namespace DD
open PySem PySem.Spec PyProof.Rows L2
theorem RG.blk {k : Nat} {X : Cx} (hr : RG k X) {s : Shared} {H : Hp} {scope : Scope} {ce : PySem.Env} {fp : List Addr} : RG k (X.blk s H scope ce fp) := ⟨hr.room, hr.gd, hr.calm⟩
/-- a def of the top, by its name: its text st, its parameters, what it is worth -/
structure Kn (P : Program) (w : World) (K : PySem.W.Frag) (mg : Str → Option Value) (base : Heap) (k : Nat) (x : Str) (st : Stmt) (ps : List Str) (g : Fn) : Prop where
  ex : ∃ f fd, FnG P w K mg base k f fd ps g ∧ mg x = some (.ref f) ∧ Fun K x x st f fd ∧ Binds K fd ps []
section
variable {X : Cx} {e : Expr} {es : List Expr} {ga gk : As} {pos p : Pos} {k j : Nat} {x : Str} {st : Stmt} {ps ks : List Str} {g : Fn} {kws : List Keyword}
theorem de_k (F : Kn X.prog X.w X.K X.mg X.base k x st ps g) (hr : RG j X) (hkj : k ≤ j) (hg : Gl X x) (ha : DA X (e :: es) ga) (hdb : (x == ("__debug__" : Str)) = false := by decide) (he : starEach (e :: es) X.env = (false, eval e X.env) :: starEach es X.env := by rfl)
    (hpl : (backTo pos (starEach es X.env)).any (·.1) = false := by rfl) : DE X (.Call (.Name x p) (e :: es) [] pos) (mCall g ga) := by
  obtain ⟨f, fd, h1, h2, h3, h4⟩ := F.ex
  exact de_call h1 (hr.mono hkj) hg h2 h3.kp h4 ha hdb he hpl
/-- how a call with keywords binds: read off the text of the def -/
theorem kw_of {K : PySem.W.Frag} {f : Addr} {fd : FuncData} {n : Nat} {perm : List Nat} (F : Fun K x x st f fd) (hp : ∀ i ∈ perm, i < ks.length)
    (h : ∀ (kV doc pm : Value) (an : Option Addr) (cdv ct : Value) (us ws : List Value), us.length = n → ws.length = ks.length → bindArgs (PySem.W.fnOf x x (defArgs st) (defBody st) (defScope st) .none kV doc pm an cdv ct) ⟨us, ks.zip ws⟩ = pure (ps.zip (us ++ perm.map fun i => ws.getD i .none))) :
    KwOk K fd ps ks n perm := by
  obtain ⟨oc, od, kV, doc, pm, an, cdv, ct, osl, rfl, lk, hcd⟩ := F.ex
  exact ⟨fun s us ws _ h1 h2 => BindsTo.of_eq (h kV doc pm an cdv ct us ws h1 h2), hp⟩
theorem de_kk0 {perm : List Nat} (F : Kn X.prog X.w X.K X.mg X.base k x st ps g) (hr : RG j X) (hkj : k ≤ j) (hg : Gl X x) (ks : List Str) (hp : ∀ i ∈ perm, i < ks.length)
    (h : ∀ (kV doc pm : Value) (an : Option Addr) (cdv ct : Value) (us ws : List Value), us.length = 0 → ws.length = ks.length → bindArgs (PySem.W.fnOf x x (defArgs st) (defBody st) (defScope st) .none kV doc pm an cdv ct) ⟨us, ks.zip ws⟩ = pure (ps.zip (us ++ perm.map fun i => ws.getD i .none)))
    (ha : DK X kws gk) (hl : kws.length = ks.length := by rfl) (hall : (backToKw pos (keywordEach kws X.env)).all (·.1.isSome) = true := by rfl) (hks : (backToKw pos (keywordEach kws X.env)).filterMap (·.1) = ks := by rfl)
    (hdb : (x == ("__debug__" : Str)) = false := by decide) (hpl : ((backTo pos (starEach [] X.env)).any (·.1) || (backToKw pos (keywordEach kws X.env)).any (·.1.isNone)) = false := by rfl) :
    DE X (.Call (.Name x p) [] kws pos) (mCallK g perm mNil gk) := by
  obtain ⟨f, fd, h1, h2, h3, h4⟩ := F.ex
  exact de_callK0 h1 (hr.mono hkj) hg h2 h3.kp (kw_of h3 hp h) ha hl hall hks hdb hpl
theorem de_kk {perm : List Nat} {n : Nat} (F : Kn X.prog X.w X.K X.mg X.base k x st ps g) (hr : RG j X) (hkj : k ≤ j) (hg : Gl X x) (n : Nat) (ks : List Str) (hp : ∀ i ∈ perm, i < ks.length)
    (h : ∀ (kV doc pm : Value) (an : Option Addr) (cdv ct : Value) (us ws : List Value), us.length = n → ws.length = ks.length → bindArgs (PySem.W.fnOf x x (defArgs st) (defBody st) (defScope st) .none kV doc pm an cdv ct) ⟨us, ks.zip ws⟩ = pure (ps.zip (us ++ perm.map fun i => ws.getD i .none)))
    (ha : DA X (e :: es) ga) (hak : DK X kws gk) (hn : (e :: es).length = n := by rfl) (hl : kws.length = ks.length := by rfl) (hall : (backToKw pos (keywordEach kws X.env)).all (·.1.isSome) = true := by rfl) (hks : (backToKw pos (keywordEach kws X.env)).filterMap (·.1) = ks := by rfl)
    (hdb : (x == ("__debug__" : Str)) = false := by decide) (he : starEach (e :: es) X.env = (false, eval e X.env) :: starEach es X.env := by rfl) (hpl : ((backTo pos (starEach (e :: es) X.env)).any (·.1) || (backToKw pos (keywordEach kws X.env)).any (·.1.isNone)) = false := by rfl) :
    DE X (.Call (.Name x p) (e :: es) kws pos) (mCallK g perm ga gk) := by
  obtain ⟨f, fd, h1, h2, h3, h4⟩ := F.ex
  exact de_callK h1 (hr.mono hkj) hg h2 h3.kp (kw_of h3 hp h) ha hak hn hl hall hks hdb he hpl
end
/-- a def of the top as the head has it -/
structure At (K : PySem.W.Frag) (x : Str) (st : Stmt) (f : Addr) (fd : FuncData) : Prop where
  ns : PySem.W.nsIn K mainGlobals x = some (some (.ref f))
  fn : Fun K x x st f fd
theorem at_mk {K : PySem.W.Frag} {x : Str} {st : Stmt} {f : Addr} {oc : Value} {od an : Option Addr} {osl : Array (Option Value)} {kV doc pm cdv ct : Value} (a : PySem.W.nsIn K mainGlobals x = some (some (.ref f)))
    (l : K.lookup f = some ⟨oc, od, .func (PySem.W.fnOf x x (defArgs st) (defBody st) (defScope st) .none kV doc pm an cdv ct), osl⟩) (c : PySem.W.codeIn K cdv x = true) (k : PySem.W.keepIn K (.ref f) = true) : ∃ f fd, At K x st f fd := ⟨f, _, a, fun_mk l c k⟩
theorem kn_of {P : Program} {w : World} {K : PySem.W.Frag} {mg : Str → Option Value} {base h : Heap} {k : Nat} {x : Str} {st : Stmt} {ps : List Str} {g : Fn} (X : K.In h) (G : h.Ns mainGlobals mg) (a : ∃ f fd, At K x st f fd)
    (hb : ∀ (kV doc pm : Value) (an : Option Addr) (cdv ct : Value) (us : List Value), us.length = ps.length → bindArgs (PySem.W.fnOf x x (defArgs st) (defBody st) (defScope st) .none kV doc pm an cdv ct) ⟨us, []⟩ = pure (ps.zip us))
    (hf : ∀ f fd, Fun K x x st f fd → FnG P w K mg base k f fd ps g) : Kn P w K mg base k x st ps g := by
  obtain ⟨f, fd, a1, a2⟩ := a
  exact ⟨f, fd, hf f fd a2, PySem.W.mg_of X G a1, a2, a2.binds hb⟩
end DD

/-! More constructs upon data: isinstance, chains, while, three at once, all, any, zip, the reversed list. -/
namespace DD
open PySem PySem.Spec PyProof.Rows L2
/-! ### isinstance -/
def tyD (S : Sto) : D → Option String
  | .non => some "NoneType"
  | .bl _ => some "bool"
  | .int _ => some "int"
  | .str _ => some "str"
  | .tup _ => some "tuple"
  | .rol _ => some "list"
  | .rod _ _ => some "dict"
  | .loc n => match S[n]? with
    | some (.lst _) => some "list"
    | some (.dic _) => some "dict"
    | none => none
def isB (t T : String) : Bool := t == T || (t == "bool" && T == "int")
def isiD (T : String) : Op1 := fun d S => (tyD S d).bind fun t => some (.bl (isB t T), S)
def ClsT (T : String) : Prop := ∀ t ∈ ["NoneType", "bool", "int", "str", "tuple", "list", "dict"], kitB t T = some (isB t T)
theorem cls_int : ClsT "int" := by unfold ClsT; decide +kernel
theorem cls_str : ClsT "str" := by unfold ClsT; decide +kernel
theorem cls_bool : ClsT "bool" := by unfold ClsT; decide +kernel
theorem cls_tuple : ClsT "tuple" := by unfold ClsT; decide +kernel
theorem cls_list : ClsT "list" := by unfold ClsT; decide +kernel
theorem cls_dict : ClsT "dict" := by unfold ClsT; decide +kernel
section
variable {K : PySem.W.Frag} {H : Hp} {m : List Addr} {S : Sto}
theorem tyD_rep {d : D} {v : V} {t : String} (s : StR K H m S) (r : Rep K H m d v) (h : tyD S d = some t) : TyX K H v (.type t) ∧ t ∈ ["NoneType", "bool", "int", "str", "tuple", "list", "dict"] := by
  cases d with
  | non => cases h; cases r; exact ⟨.base .non, by simp⟩
  | bl b => cases h; cases r; exact ⟨.base (.bl b), by simp⟩
  | int i => cases h; cases r; exact ⟨.base (.int i), by simp⟩
  | str x => cases h; cases r; exact ⟨.base (.str x), by simp⟩
  | tup ds =>
    cases h
    cases r with
    | tup hs rs =>
      refine ⟨?_, by simp⟩
      rcases hs with h | ⟨o, its, n, h1, h2, _⟩
      · rcases h with h | ⟨o, h⟩
        · exact .base (.tup h)
        · exact .fTuple h
      · exact .kTuple h1 h2
  | rol ds =>
    cases h
    cases r with
    | rol hs rs =>
      refine ⟨?_, by simp⟩
      rcases hs with ⟨o, h⟩ | ⟨its, n, h1, _⟩
      · exact .base (.frz h)
      · exact .kList h1 rfl
  | rod ks ds =>
    cases h
    cases r with
    | rod hs _ _ =>
      obtain ⟨o, h⟩ := hs
      exact ⟨.fDict h, by simp⟩
  | loc n =>
    simp only [tyD] at h
    cases hn : S[n]? with
    | none => rw [hn] at h; cases h
    | some cl =>
      rw [hn] at h
      cases cl with
      | lst ds =>
        cases h
        obtain ⟨a', vs, rfl, hm, e1, rs⟩ := s.lst r hn
        exact ⟨.base (.lst e1), by simp⟩
      | dic ds =>
        cases h
        obtain ⟨a', vs, rfl, hm, e1, rs⟩ := s.dic r hn
        exact ⟨.base (.dK e1), by simp⟩
end
section
variable {X : Cx} {e a b c : Expr} {es : List Expr} {fa fb fc : Ex} {ga : As} {ta tb : Tx} {pos : Pos} {k : Nat}
theorem de_isi {T : String} {x : Str} {p q : Pos} (hT : ClsT T) (hg : Gl X "isinstance") (hm : X.mg "isinstance" = none) (hg' : Gl X x) (hm' : X.mg x = none) (hv : bootBuiltins x = some (.type T)) (ha : DE X e fa)
    (h1 : starEach [e, .Name x q] X.env = (false, eval e X.env) :: starEach [.Name x q] X.env := by rfl) (h2 : starEach [.Name x q] X.env = (false, eval (.Name x q) X.env) :: starEach [] X.env := by rfl)
    (hn : x ≠ "__name__" := by decide) (hd : (x == ("__debug__" : Str)) = false := by decide)
    (hpl : (backTo pos (starEach [.Name x q] X.env)).any (·.1) = false := by rfl) : DE X (.Call (.Name "isinstance" p) [e, .Name x q] [] pos) (m1 (isiD T) (mCons fa mNil)) := by
  have hb : PE X (.Name x q) (tC (.ty T)) := pe_bltn hg' hm' hv rfl hn hd
  refine pew (pe_callB call_isi hg hm (by decide +kernel) (pa_cons ha (pa_cons hb pa_nil h2) h1) (by decide) (by decide) h1 hpl) fun σ H Q h => ?_
  obtain ⟨ρ, S, m, d, S', E, st, hf, q⟩ := h
  obtain ⟨l, h3, hf⟩ := obind hf
  obtain ⟨p1, h4, h3⟩ := obind h3
  cases h3
  refine ⟨ρ, S, m, p1.1, p1.2, E, st, h4, fun v H1 m1 x1 s1 r1 => ?_⟩
  obtain ⟨t, h5, hf⟩ := obind hf
  cases hf
  obtain ⟨g1, g2⟩ := tyD_rep s1 r1 h5
  exact ⟨v, .ty T, .type t, .type T, isB t T, rfl, .ty T, g1, kit_ty (hT t g2), q _ H1 m1 x1 s1 (.bl _)⟩

/-! ### a op b op' c -/
def mChain (g g' : Op2) (fa fb fc : Ex) : Ex := fun ρ S => (fa ρ S).bind fun p => (fb ρ p.2).bind fun q => (g p.1 q.1 q.2).bind fun r => match r.1 with
  | .bl true => (fc ρ r.2).bind fun c => g' q.1 c.1 c.2
  | .bl false => some (.bl false, r.2)
  | _ => none
theorem chain_use {r r' : R2} {g g' : Op2} {K : PySem.W.Frag} (o : OpD K r g) (o' : OpD K r' g') {σ : L2.St} {H : Hp} {Q : VK} (h : tE K (mChain g g' fa fb fc) σ H Q) : tChain r r' (tE K fa) (tE K fb) (tE K fc) σ H Q := by
  obtain ⟨ρ, S, m, d', S', E, st, hf, q⟩ := h
  obtain ⟨p1, h1, hf⟩ := obind hf
  obtain ⟨p2, h2, hf⟩ := obind hf
  obtain ⟨p3, h3, hf⟩ := obind hf
  refine ⟨ρ, S, m, p1.1, p1.2, E, st, h1, fun v H1 m1 x1 s1 r1 => ⟨ρ, p1.2, m1, p2.1, p2.2, E.mono st x1, s1, h2, fun u H2 m2 x2 s2 r2 => ?_⟩⟩
  refine o H2 m2 p2.2 v u p1.1 p2.1 p3.1 p3.2 _ s2 (r1.mono s1 x2) r2 h3 fun w H3 m3 x3 s3 r3 => ?_
  cases hp : p3.1 with
  | bl kk =>
    rw [hp] at hf r3
    cases r3
    refine ⟨kk, rfl, ?_⟩
    cases kk with
    | true =>
      rw [if_pos rfl]
      obtain ⟨p4, h4, hf⟩ := obind hf
      refine ⟨ρ, p3.2, m3, p4.1, p4.2, (E.mono st x1).mono s1 (x2.trans x3), s3, h4, fun z H4 m4 x4 s4 r4 => ?_⟩
      exact o' H4 m4 p4.2 u z p2.1 p4.1 d' S' Q s4 ((r2.mono s2 x3).mono s3 x4) r4 hf fun y H5 m5 x5 s5 r5 => q y H5 m5 (((x1.trans x2).trans (x3.trans x4)).trans x5) s5 r5
    | false =>
      rw [if_neg Bool.false_ne_true]
      cases hf
      exact q _ H3 m3 (x1.trans (x2.trans x3)) s3 (.bl _)
  | _ => rw [hp] at hf; cases hf
theorem de_chain {op op' : CmpOp} {r r' : R2} {g g' : Op2} (hr : OpR X (compareOp op) r) (o : OpD X.K r g) (hr' : OpR X (compareOp op') r') (o' : OpD X.K r' g') (ha : DE X a fa) (hb : DE X b fb) (hc : DE X c fc)
    (hm : lastMarks [op, op'] [b, c] = false := by with_unfolding_all rfl) : DE X (.Compare a [op, op'] [b, c] pos) (mChain g g' fa fb fc) := pew (pe_chain hr hr' ha hb hc hm) fun _ _ _ h => chain_use o o' h
theorem dt_chain {op op' : CmpOp} {r r' : R2} {g g' : Op2} (hr : OpR X (compareOp op) r) (o : OpD X.K r g) (hr' : OpR X (compareOp op') r') (o' : OpD X.K r' g') (ha : DE X a fa) (hb : DE X b fb) (hc : DE X c fc)
    (hm : lastMarks [op, op'] [b, c] = false := by with_unfolding_all rfl) : DT X (.Compare a [op, op'] [b, c] pos) (mB (mChain g g' fa fb fc)) := ptw (pt_chain hr hr' ha hb hc hm) fun _ _ _ h => chain_use o o' (useB h)

/-! ### x, y, z = a, b, c -/
def mPar3 (i j l : Nat) (as : As) : SM := fun ρ S => (as ρ S).bind fun p => match p.1 with | [x, y, z] => some (.nx (((ρ.set i (some x)).set j (some y)).set l (some z)) p.2) | _ => none
theorem ds_par3 (i j l : Nat) {x y z : Str} {px py pz pt pt2 : Pos} {kt k2 : Nat} (hc : X.calm = true) (hN : X.N.Nodup) (hi : X.N[i]? = some x) (hj : X.N[j]? = some y) (hl : X.N[l]? = some z) (hij : i ≠ j) (hil : i ≠ l) (hjl : j ≠ l)
    (hx : X.env.scope.names.lookup x = some .local) (hy : X.env.scope.names.lookup y = some .local) (hz : X.env.scope.names.lookup z = some .local) (ha : DA X [a, b, c] ga)
    (hw : swappedStores [.Tuple [.Name x px, .Name y py, .Name z pz] kt pt] (.Tuple [a, b, c] k2 pt2) X.env = pure (some [x, y, z]))
    (hs : swapsWithSole [.Tuple [.Name x px, .Name y py, .Name z pz] kt pt] (.Tuple [a, b, c] k2 pt2) pos.line X.env = pure false := by rfl) :
    DS X (.Assign [.Tuple [.Name x px, .Name y py, .Name z pz] kt pt] (.Tuple [a, b, c] k2 pt2) pos) (mPar3 i j l ga) :=
  psw (ps_par3 hc hN hi hj hl hij hil hjl hx hy hz ha.pa hw hs) fun E σ H h => by
    obtain ⟨ρ, S, m, o, er, sr, hf, q⟩ := h
    obtain ⟨p, h1, hf⟩ := obind hf
    refine ⟨ρ, S, m, p.1, p.2, er, sr, h1, fun us H1 m1 x1 s1 r1 => ?_⟩
    generalize p.1 = ll at hf r1
    match ll, hf, r1 with
    | [d1, d2, d3], hf, .cons r1 (.cons r2 (.cons r3 .nil)) =>
      cases hf
      exact ⟨_, _, _, rfl, q _ H1 m1 x1 s1 ((((er.mono sr x1).set i (show RepO X.K H1 m1 (some d1) (some _) from r1)).set j (show RepO X.K H1 m1 (some d2) (some _) from r2)).set l (show RepO X.K H1 m1 (some d3) (some _) from r3))⟩

/-! ### while -/
def whileL (t : Tx) (f : SM) : Nat → Env → Sto → Option Out
  | 0, _, _ => none
  | n + 1, ρ, S => (t ρ S).bind fun b => if b.1 = true then (f ρ b.2).bind fun o => match o with
      | .nx ρ2 S2 => whileL t f n ρ2 S2
      | .ct ρ2 S2 => whileL t f n ρ2 S2
      | .bk ρ2 S2 => some (.nx ρ2 S2)
      | .rt d S2 => some (.rt d S2)
    else some (.nx ρ b.2)
def fuelW : Nat := 4294967296
def mWhile (t : Tx) (f : SM) : SM := whileL t f fuelW
theorem ds_while {body : List Stmt} {f : SM} (hp : PassesOwn (model X.prog X.w) X.A X.env X.xe) (hc : DT X c ta) (hb : DSs X body f) : DS X (.While c body [] pos) (mWhile ta f) := psw (ps_while hp hc hb) fun E σ H h => by
  obtain ⟨ρ, S, m, o, er, sr, hf, q⟩ := h
  refine ⟨fun n σ' H' => ∃ ρ' S' m', EnvR X.K H' m' ρ' σ' ∧ StR X.K H' m' S' ∧ Ext H m H' m' ∧ whileL ta f n ρ' S' = some o, ⟨fuelW, ρ, S, m, er, sr, Ext.refl _ _, hf⟩, fun n σ' H' hW => ?_⟩
  obtain ⟨ρ', S', m', er', sr', x', hf'⟩ := hW
  cases n with
  | zero => cases hf'
  | succ n =>
    obtain ⟨b, b1, hf'⟩ := obind hf'
    refine ⟨ρ', S', m', b.1, b.2, er', sr', b1, fun H1 m1 x1 s1 => ?_⟩
    have xx := x'.trans x1
    cases hb : b.1 with
    | true =>
      rw [hb, if_pos rfl] at hf'
      dsimp only
      rw [if_pos rfl]
      obtain ⟨ob, c1, hf'⟩ := obind hf'
      refine ⟨fun σ2 H2 => ∃ ρ2 S2 m2, EnvR X.K H2 m2 ρ2 σ2 ∧ StR X.K H2 m2 S2 ∧ Ext H m H2 m2 ∧ whileL ta f n ρ2 S2 = some o, fun σ2 H2 hN => ⟨n, Nat.lt_succ_self n, hN⟩, ?_⟩
      refine ⟨ρ', b.2, m1, ob, er'.mono sr' x1, s1, c1, ?_⟩
      cases ob with
      | nx ρ3 S3 => exact fun σ4 H4 m4 x4 s4 e4 => ⟨ρ3, S3, m4, e4, s4, xx.trans x4, hf'⟩
      | ct ρ3 S3 => exact fun σ4 H4 m4 x4 s4 e4 => ⟨ρ3, S3, m4, e4, s4, xx.trans x4, hf'⟩
      | bk ρ3 S3 => cases hf'; exact fun σ4 H4 m4 x4 s4 e4 => q σ4 H4 m4 (xx.trans x4) s4 e4
      | rt d3 S3 => cases hf'; exact fun v4 H4 m4 x4 s4 r4 => q v4 H4 m4 (xx.trans x4) s4 r4
    | false =>
      rw [hb, if_neg Bool.false_ne_true] at hf'
      dsimp only
      rw [if_neg Bool.false_ne_true]
      cases hf'
      exact q σ' H1 m1 xx s1 (er'.mono sr' x1)
end
end DD

/-! all, any, the reversed list, texts walked and compared, zip, min and max of two, str, what is never reached. -/
namespace DD
open PySem PySem.Spec PyProof.Rows L2
/-! ### never reached -/
section
variable {X : Cx} {e a b c : Expr} {es : List Expr} {fa fb fc : Ex} {ga : As} {ta tb : Tx} {pos : Pos} {k : Nat} {st : Stmt}
def mNoE : Ex := fun _ _ => none
def mNoS : SM := fun _ _ => none
theorem de_no : DE X e mNoE := ⟨fun pins s σ H Q I h => by obtain ⟨ρ, S, m, d, S', _, _, hf, _⟩ := h; cases hf⟩
theorem ds_no : DS X st mNoS := ⟨fun pins s σ H Q I h => by obtain ⟨ρ, S, m, o, _, _, hf, _⟩ := h; cases hf⟩
/-! ### all, any -/
def blOf : D → Option Bool
  | .bl b => some b
  | _ => none
def allD : Op1 := fun d S => (lstOf S d).bind fun ds => (mapO blOf ds).bind fun bs => some (.bl (bs.all id), S)
def anyD : Op1 := fun d S => (lstOf S d).bind fun ds => (mapO blOf ds).bind fun bs => some (.bl (bs.any id), S)
theorem bls_rep {K : PySem.W.Frag} {H : Hp} {m : List Addr} : ∀ {ds : List D} {vs : List V} {bs : List Bool}, RepL K H m ds vs → mapO blOf ds = some bs → vs = bs.map V.bl
  | _, _, _, .nil, h => by cases h; rfl
  | d :: ds, _, _, .cons r t, h => by
    obtain ⟨y, h1, h⟩ := obind h
    obtain ⟨ys, h2, h⟩ := obind h
    cases h
    have := bls_rep t h2
    cases d with
    | bl b => cases h1; cases r; rw [this]; rfl
    | _ => cases h1
theorem o1_all {K : PySem.W.Frag} : Op1D K (rAll K) allD := by
  intro H m S x d d' S' Q s r h k
  obtain ⟨ds, h1, h⟩ := obind h
  obtain ⟨bs, h2, h⟩ := obind h
  cases h
  obtain ⟨a, vs, rfl, hs, rs⟩ := lstOf_rep s r h1
  exact ⟨a, bs, rfl, by rw [← bls_rep rs h2]; exact hs, k _ H m (Ext.refl H m) s (.bl _)⟩
theorem o1_any {K : PySem.W.Frag} : Op1D K (rAny K) anyD := by
  intro H m S x d d' S' Q s r h k
  obtain ⟨ds, h1, h⟩ := obind h
  obtain ⟨bs, h2, h⟩ := obind h
  cases h
  obtain ⟨a, vs, rfl, hs, rs⟩ := lstOf_rep s r h1
  exact ⟨a, bs, rfl, by rw [← bls_rep rs h2]; exact hs, k _ H m (Ext.refl H m) s (.bl _)⟩
theorem de_all {p : Pos} (hc : X.calm = true) (hg : Gl X "all") (hm : X.mg "all" = none) (ha : DA X [e] ga) (he : starEach [e] X.env = (false, eval e X.env) :: starEach [] X.env := by rfl) : DE X (.Call (.Name "all" p) [e] [] pos) (m1 allD ga) :=
  de_b1 (cr_all hc) o1_all hg hm (by decide +kernel) ha (by decide) (by decide) he
theorem de_any {p : Pos} (hc : X.calm = true) (hg : Gl X "any") (hm : X.mg "any" = none) (ha : DA X [e] ga) (he : starEach [e] X.env = (false, eval e X.env) :: starEach [] X.env := by rfl) : DE X (.Call (.Name "any" p) [e] [] pos) (m1 anyD ga) :=
  de_b1 (cr_any hc) o1_any hg hm (by decide +kernel) ha (by decide) (by decide) he
/-! ### str of an int or a text -/
def toStrD : Op1 := fun d S => match d with | .int i => if i.natAbs.log2 < 1920 then some (.str (toString i), S) else none | .str x => some (.str x, S) | _ => none
theorem o1_str {K : PySem.W.Frag} : Op1D K (fun xs H Q => (∃ i, xs = [.int i] ∧ i.natAbs.log2 < 1920 ∧ Q (.str (toString i)) H) ∨ ∃ a, xs = [.str a] ∧ Q (.str a) H) toStrD := by
  intro H m S x d d' S' Q s r h k
  cases d with
  | int i =>
    simp only [toStrD] at h
    by_cases hz : i.natAbs.log2 < 1920
    · rw [if_pos hz] at h; cases h; cases r; exact .inl ⟨i, rfl, hz, k _ H m (Ext.refl H m) s (.str _)⟩
    · rw [if_neg hz] at h; cases h
  | str i => cases h; cases r; exact .inr ⟨i, rfl, k _ H m (Ext.refl H m) s (.str _)⟩
  | _ => cases h
theorem de_str1 {p : Pos} (hg : Gl X "str") (hm : X.mg "str" = none) (ha : DA X [e] ga) (he : starEach [e] X.env = (false, eval e X.env) :: starEach [] X.env := by rfl) : DE X (.Call (.Name "str" p) [e] [] pos) (m1 toStrD ga) :=
  de_t1 (CallR.or call_str_int SkE.call_str_str) o1_str hg hm (by decide +kernel) ha (by decide) (by decide) he
/-! ### min, max of two ints -/
def mB2 (g : Op2) (ga : As) : Ex := fun ρ S => (ga ρ S).bind fun q => match q.1 with | [d, e] => g d e q.2 | _ => none
theorem de_b2 {id : String} {x : Str} {p : Pos} {r : List V → Hp → VK → Prop} {g : Op2} (hc : CallR X (.builtin id) r) (o : ∀ (H : Hp) (m : List Addr) (S : Sto) (x y : V) (d e d' : D) (S' : Sto) (Q : VK), StR X.K H m S → Rep X.K H m d x → Rep X.K H m e y → g d e S = some (d', S') →
      (∀ v H' m', Ext H m H' m' → StR X.K H' m' S' → Rep X.K H' m' d' v → Q v H') → r [x, y] H Q) (hg : Gl X x) (hm : X.mg x = none) (hv : bootBuiltins x = some (.builtin id)) (ha : DA X [a, b] ga) (hn : x ≠ "__name__" := by decide) (hdb : (x == ("__debug__" : Str)) = false := by decide)
    (he : starEach [a, b] X.env = (false, eval a X.env) :: starEach [b] X.env := by rfl) (hpl : (backTo pos (starEach [b] X.env)).any (·.1) = false := by rfl) : DE X (.Call (.Name x p) [a, b] [] pos) (mB2 g ga) := pew (pe_callB hc hg hm hv ha.pa hn hdb he hpl) fun σ H Q h => by
  obtain ⟨ρ, S, m, d, S', E, st, hf, q⟩ := h
  obtain ⟨p2, h2, hf⟩ := obind hf
  refine ⟨ρ, S, m, p2.1, p2.2, E, st, h2, fun us H2 m2 x2 s2 r2 => ?_⟩
  generalize p2.1 = l at hf r2
  match l, hf, r2 with
  | [d1, d2], hf, .cons r2 (.cons r3 .nil) => exact o H2 m2 p2.2 _ _ d1 d2 d S' Q s2 r2 r3 hf fun w H3 m3 x3 s3 r3 => q w H3 m3 (x2.trans x3) s3 r3
abbrev min2D : Op2 := int0 fun i j => .int (if j < i then j else i)
abbrev max2D : Op2 := int0 fun i j => .int (if j > i then j else i)
theorem de_min2 {p : Pos} (hc : X.calm = true) (hg : Gl X "min") (hm : X.mg "min" = none) (ha : DA X [a, b] ga) (he : starEach [a, b] X.env = (false, eval a X.env) :: starEach [b] X.env := by rfl) (hpl : (backTo pos (starEach [b] X.env)).any (·.1) = false := by rfl) : DE X (.Call (.Name "min" p) [a, b] [] pos) (mB2 min2D ga) :=
  de_b2 (call_min2 hc) (fun H m S x y d e d' S' Q s r r' h k => by
    match d, e, h with
    | .int i, .int j, h => cases h; cases r; cases r'; exact ⟨i, j, rfl, k _ H m (Ext.refl H m) s (.int _)⟩) hg hm (by decide +kernel) ha (by decide) (by decide) he hpl
theorem de_max2 {p : Pos} (hc : X.calm = true) (hg : Gl X "max") (hm : X.mg "max" = none) (ha : DA X [a, b] ga) (he : starEach [a, b] X.env = (false, eval a X.env) :: starEach [b] X.env := by rfl) (hpl : (backTo pos (starEach [b] X.env)).any (·.1) = false := by rfl) : DE X (.Call (.Name "max" p) [a, b] [] pos) (mB2 max2D ga) :=
  de_b2 (call_max2 hc) (fun H m S x y d e d' S' Q s r r' h k => by
    match d, e, h with
    | .int i, .int j, h => cases h; cases r; cases r'; exact ⟨i, j, rfl, k _ H m (Ext.refl H m) s (.int _)⟩) hg hm (by decide +kernel) ha (by decide) (by decide) he hpl
/-! ### xs[::-1] of a list -/
def mRevL (fa : Ex) : Ex := fun ρ S => (fa ρ S).bind fun p => (lstOf p.2 p.1).bind fun ds => some (.loc p.2.length, p.2 ++ [.lst ds.reverse])
theorem de_revL {k : Nat} {p1 p2 p3 : Pos} (ha : DE X e fa) : DE X (.Subscript e (.Slice none none (some (.UnaryOp .USub (.Constant (.int 1) k p1) p2)) p3) pos) (mRevL fa) := pew (pe_revL ha) fun σ H Q h => by
  obtain ⟨ρ, S, m, d, S', E, st, hf, q⟩ := h
  obtain ⟨p, h1, hf⟩ := obind hf
  obtain ⟨ds, h2, hf⟩ := obind hf
  cases hf
  refine ⟨ρ, S, m, p.1, p.2, E, st, h1, fun v H1 m1 x1 s1 r1 => ?_⟩
  obtain ⟨a', vs, rfl, hs, rs⟩ := lstOf_rep s1 r1 h2
  refine ⟨a', vs, rfl, hs, fun l hl => ?_⟩
  obtain ⟨q1, q2, q3⟩ := newL s1 rs.reverse hl
  exact q _ _ _ (x1.trans q1) q2 q3
/-! ### a text's signs -/
def strI (d : D) (S : Sto) : Option (List D × (Sto → Bool) × Sto) := match d with
  | .str x => some (x.cps.toList.map fun c => .str ⟨#[c]⟩, fun _ => true, S)
  | _ => none
def mIs (f : Ex) : Im := fun ρ S => (f ρ S).bind fun p => strI p.1 p.2
theorem walks_str {K : PySem.W.Frag} {H0 : Hp} {m0 : List Addr} (x : Str) : Walks K (Its x) H0 m0 (x.cps.toList.map fun c => .str ⟨#[c]⟩) fun _ => true := fun H m S i xx s _ => by
  refine ⟨fun d hd => ?_, fun h => show x.cps.size ≤ i by simpa using h⟩
  rw [List.getElem?_map] at hd
  cases hc : x.cps.toList[i]? with
  | none => rw [hc] at hd; cases hd
  | some c =>
    rw [hc] at hd
    cases hd
    rw [Array.getElem?_toList] at hc
    refine ⟨(Array.getElem?_eq_some_iff.mp hc).1, fun u H' y => ?_⟩
    obtain ⟨rfl, c', h1, rfl⟩ := y
    rw [hc] at h1
    cases h1
    exact ⟨m, Ext.refl _ _, s, .str _⟩
theorem di_str {tg : Expr} (ha : DE X a fa) : DI X tg a (mIs fa) := piw (pi_str ha) fun σ H R h => by
  obtain ⟨ρ, S, m, ds, chk, S', er, sr, hf, q⟩ := h
  obtain ⟨p, h1, hf⟩ := obind hf
  cases hp : p.1 with
  | str x =>
    rw [hp] at hf; cases hf
    refine ⟨ρ, S, m, p.1, p.2, er, sr, h1, fun v H1 m1 x1 s1 r1 => ?_⟩
    rw [hp] at r1
    cases r1
    exact ⟨x, rfl, q _ H1 m1 x1 s1 (walks_str x)⟩
  | _ => rw [hp] at hf; cases hf
/-! ### texts compared -/
abbrev cmpS (p : Str → Str → Bool) : Op2 := fun d e S => match d, e with | .str x, .str y => some (.bl (p x y), S) | _, _ => none
theorem od_cmpS {K : PySem.W.Frag} {p : Str → Str → Bool} : OpD K (fun x y H Q => ∃ i j, x = .str i ∧ y = .str j ∧ Q (.bl (p i j)) H) (cmpS p) := by
  intro H m S x y d e d' S' Q s rx ry h k
  match d, e, h with
  | .str i, .str j, h => cases h; cases rx; cases ry; exact ⟨i, j, rfl, rfl, k _ H m (Ext.refl H m) s (.bl _)⟩
abbrev ltSD : Op2 := cmpS fun x y => decide (x.cps.toList < y.cps.toList)
abbrev leSD : Op2 := cmpS fun x y => !decide (y.cps.toList < x.cps.toList)
abbrev gtSD : Op2 := cmpS fun x y => decide (y.cps.toList < x.cps.toList)
abbrev geSD : Op2 := cmpS fun x y => !decide (x.cps.toList < y.cps.toList)
theorem de_ltS (ha : DE X a fa) (hb : DE X b fb) : DE X (.Compare a [.Lt] [b] pos) (m2 ltSD fa fb) := de_cmp op_lt_str od_cmpS ha hb (nomark _)
theorem de_leS (ha : DE X a fa) (hb : DE X b fb) : DE X (.Compare a [.LtE] [b] pos) (m2 leSD fa fb) := de_cmp op_le_str od_cmpS ha hb (nomark _)
theorem de_gtS (ha : DE X a fa) (hb : DE X b fb) : DE X (.Compare a [.Gt] [b] pos) (m2 gtSD fa fb) := de_cmp op_gt_str od_cmpS ha hb (nomark _)
theorem de_geS (ha : DE X a fa) (hb : DE X b fb) : DE X (.Compare a [.GtE] [b] pos) (m2 geSD fa fb) := de_cmp op_ge_str od_cmpS ha hb (nomark _)
end
end DD

/-! zip of two. -/
namespace DD
open PySem PySem.Spec PyProof.Rows L2 RZ
abbrev zipL (ds es : List D) : List D := List.zipWith (fun x y => D.tup [x, y]) ds es
/-- a list that is walked: it stands as it stood -/
theorem seqI_stays {K : PySem.W.Frag} {d : D} {S : Sto} {ds : List D} {chk : Sto → Bool} {S' : Sto} {H0 : Hp} {m0 : List Addr} {v : V} (h : seqI d S = some (ds, chk, S')) (ht : ∀ es, d ≠ .tup es) (s0 : StR K H0 m0 S) (r : Rep K H0 m0 d v) :
    S' = S ∧ ∃ a, v = .ref a ∧ (∃ vs, SqL K H0 a vs ∧ RepL K H0 m0 ds vs) ∧ ∀ (H : Hp) (m : List Addr) (T : Sto), Ext H0 m0 H m → StR K H m T → chk T = true → ∃ vs, SqL K H a vs ∧ RepL K H m ds vs := by
  cases d with
  | tup es => exact absurd rfl (ht es)
  | rol es =>
    cases h
    cases r with
    | rol hs rs => exact ⟨rfl, _, rfl, ⟨_, hs.sq, rs⟩, fun H m T x _ _ => ⟨_, (x.roL s0 hs).sq, rs.mono s0 x⟩⟩
  | loc n =>
    simp only [seqI] at h
    cases hn : S[n]? with
    | none => rw [hn] at h; cases h
    | some cl =>
      rw [hn] at h
      cases cl with
      | dic _ => cases h
      | lst es =>
        cases h
        obtain ⟨a', vs, rfl, hm', e1, rs⟩ := s0.lst r hn
        refine ⟨rfl, a', rfl, ⟨vs, SqL.of e1, rs⟩, fun H m T x s hc => ?_⟩
        have hS : T[n]? = some (.lst ds) := by
          dsimp only at hc
          cases hn' : T[n]? with
          | none => rw [hn'] at hc; cases hc
          | some cl =>
            rw [hn'] at hc
            cases cl with
            | dic _ => cases hc
            | lst es' => rw [of_decide_eq_true hc]
        obtain ⟨a2, vs2, ea, _, e2, rs2⟩ := s.lst (.loc (x.pre n a' hm')) hS
        cases ea
        exact ⟨vs2, SqL.of e2, rs2⟩
  | _ => cases h
def zipI (d e : D) (S : Sto) : Option (List D × (Sto → Bool) × Sto) := match d, e with
  | .tup ds, .tup es => some (zipL ds es, fun _ => true, S)
  | .tup _, _ => none
  | _, .tup _ => none
  | d, e => (seqI d S).bind fun p => (seqI e S).bind fun q => some (zipL p.1 q.1, fun S' => p.2.1 S' && q.2.1 S', S)
def mZip (as : As) : Im := fun ρ S => (as ρ S).bind fun p => match p.1 with | [d, e] => zipI d e p.2 | _ => none
theorem zip_get {ds es : List D} {i : Nat} {d : D} (h : (zipL ds es)[i]? = some d) : ∃ x y, ds[i]? = some x ∧ es[i]? = some y ∧ d = .tup [x, y] := by
  rw [List.getElem?_zipWith] at h
  cases h1 : ds[i]? with
  | none => rw [h1] at h; cases h
  | some x =>
    cases h2 : es[i]? with
    | none => rw [h1, h2] at h; cases h
    | some y => rw [h1, h2] at h; cases h; exact ⟨x, y, rfl, rfl, rfl⟩
section
variable {X : Cx} {a b : Expr} {ga : As} {pos : Pos}
theorem two_new {K : PySem.W.Frag} {H : Hp} {m : List Addr} {S : Sto} {T : Addr} {d e : D} {x y : V} (s : StR K H m S) (hT : H T = none) (r : Rep K H m d x) (r' : Rep K H m e y) :
    ∃ m', Ext H m (upd H T (.tup [x, y])) m' ∧ StR K (upd H T (.tup [x, y])) m' S ∧ Rep K (upd H T (.tup [x, y])) m' (.tup [d, e]) (.ref T) :=
  ⟨m, Ext.new1 hT, s.new1 hT, .tup (SqT.of upd_same) (.cons (r.mono s (Ext.new1 hT)) (.cons (r'.mono s (Ext.new1 hT)) .nil))⟩
theorem walks_zipL {K : PySem.W.Frag} {H0 : Hp} {m0 : List Addr} {a' b' : Addr} {ds es : List D} {c1 c2 : Sto → Bool} (hL : ∀ (H : Hp) (m : List Addr) (S : Sto), Ext H0 m0 H m → StR K H m S → c1 S = true → ∃ vs, SqL K H a' vs ∧ RepL K H m ds vs)
    (hM : ∀ (H : Hp) (m : List Addr) (S : Sto), Ext H0 m0 H m → StR K H m S → c2 S = true → ∃ vs, SqL K H b' vs ∧ RepL K H m es vs) : Walks K (Itz K a' b') H0 m0 (zipL ds es) fun S' => c1 S' && c2 S' := fun H m S i x s hc => by
  rw [Bool.and_eq_true] at hc
  obtain ⟨vs, hs, rs⟩ := hL H m S x s hc.1
  obtain ⟨us, hs', rs'⟩ := hM H m S x s hc.2
  refine ⟨fun d hd => ?_, fun h => ⟨vs, us, hs, hs', ?_⟩⟩
  · obtain ⟨e1, e2, h1, h2, rfl⟩ := zip_get hd
    obtain ⟨v1, g1, q1⟩ := rs.get h1
    obtain ⟨v2, g2, q2⟩ := rs'.get h2
    refine ⟨⟨vs, us, v1, v2, hs, hs', g1, g2⟩, fun u H' y => ?_⟩
    obtain ⟨T, x0, y0, rfl, hT, rfl, hx, hy⟩ := y
    have hz := hx vs hs
    rw [g1] at hz; cases hz
    have hz := hy us hs'
    rw [g2] at hz; cases hz
    exact two_new s hT q1 q2
  · rw [List.length_zipWith, rs.length, rs'.length] at h
    omega
theorem walks_zipT {K : PySem.W.Frag} {H0 : Hp} {m0 : List Addr} {S0 : Sto} {a' b' : Addr} {vs us : List V} {ds es : List D} (s0 : StR K H0 m0 S0) (hs0 : SqT K H0 a' vs) (rs0 : RepL K H0 m0 ds vs) (hs1 : SqT K H0 b' us) (rs1 : RepL K H0 m0 es us) : Walks K (ItzT K a' b') H0 m0 (zipL ds es) fun _ => true := fun H m S i x s _ => by
  have hs := x.sqT s0 hs0
  have hs' := x.sqT s0 hs1
  have rs := rs0.mono s0 x
  have rs' := rs1.mono s0 x
  refine ⟨fun d hd => ?_, fun h => ⟨vs, us, hs, hs', ?_⟩⟩
  · obtain ⟨e1, e2, h1, h2, rfl⟩ := zip_get hd
    obtain ⟨v1, g1, q1⟩ := rs.get h1
    obtain ⟨v2, g2, q2⟩ := rs'.get h2
    refine ⟨⟨vs, us, v1, v2, hs, hs', g1, g2⟩, fun u H' y => ?_⟩
    obtain ⟨T, x0, y0, rfl, hT, rfl, hx, hy⟩ := y
    have hz := hx vs hs
    rw [g1] at hz; cases hz
    have hz := hy us hs'
    rw [g2] at hz; cases hz
    exact two_new s hT q1 q2
  · rw [List.length_zipWith, rs.length, rs'.length] at h
    omega
theorem di_zip {p tpos : Pos} {elts : List Expr} {kk : Nat} (hg : Gl X "zip") (hm : X.mg "zip" = none) (ha : DA X [a, b] ga) (hs : starEach [a, b] X.env = (false, eval a X.env) :: starEach [b] X.env := by rfl) (hpl : (backTo pos (starEach [b] X.env)).any (·.1) = false := by rfl) :
    DI X (.Tuple elts kk tpos) (.Call (.Name "zip" p) [a, b] [] pos) (mZip ga) := piw (pi_zipA hg hm ha.pa hs hpl) fun σ H R h => by
  obtain ⟨ρ, S, m, ds, chk, S', er, sr, hf, q⟩ := h
  obtain ⟨p, h1, hf⟩ := obind hf
  refine ⟨ρ, S, m, p.1, p.2, er, sr, h1, fun us H1 m1 x1 s1 r1 => ?_⟩
  generalize p.1 = l at hf r1
  match l, hf, r1 with
  | [d1, d2], hf, .cons (v := v1) r1 (.cons (v := v2) r2 .nil) =>
    dsimp only at hf
    have lists : (∀ es, d1 ≠ .tup es) → (∀ es, d2 ≠ .tup es) → ((seqI d1 p.2).bind fun p' => (seqI d2 p.2).bind fun q => some (zipL p'.1 q.1, fun S' => p'.2.1 S' && q.2.1 S', p.2)) = some (ds, chk, S') →
        ∃ a b xs ys, [v1, v2] = [V.ref a, V.ref b] ∧ ((SqL X.K H1 a xs ∧ SqL X.K H1 b ys ∧ R (Itz X.K a b) H1) ∨ (SqT X.K H1 a xs ∧ SqT X.K H1 b ys ∧ R (ItzT X.K a b) H1)) := by
      intro n1 n2 hf
      obtain ⟨p1, g1, hf⟩ := obind hf
      obtain ⟨p2, g2, hf⟩ := obind hf
      cases hf
      obtain ⟨e1, a1, rfl, ⟨vs1, k1, _⟩, w1⟩ := seqI_stays (ds := p1.1) (chk := p1.2.1) (S' := p1.2.2) g1 n1 s1 r1
      obtain ⟨e2, a2, rfl, ⟨vs2, k2, _⟩, w2⟩ := seqI_stays (ds := p2.1) (chk := p2.2.1) (S' := p2.2.2) g2 n2 s1 r2
      exact ⟨a1, a2, vs1, vs2, rfl, .inl ⟨k1, k2, q _ H1 m1 x1 s1 (walks_zipL w1 w2)⟩⟩
    cases d1 with
    | tup es1 =>
      cases d2 with
      | tup es2 =>
        cases hf
        cases r1 with
        | tup hs rs => cases r2 with
          | tup hs' rs' => exact ⟨_, _, _, _, rfl, .inr ⟨hs, hs', q _ H1 m1 x1 s1 (walks_zipT s1 hs rs hs' rs')⟩⟩
      | _ => cases hf
    | non => cases d2 <;> cases hf
    | bl _ => cases d2 <;> cases hf
    | int _ => cases d2 <;> cases hf
    | str _ => cases d2 <;> cases hf
    | rod _ _ => cases d2 <;> cases hf
    | rol es1 =>
      cases d2 with
      | tup es2 => cases hf
      | _ => exact lists (fun _ z => by cases z) (fun _ z => by cases z) hf
    | loc es1 =>
      cases d2 with
      | tup es2 => cases hf
      | _ => exact lists (fun _ z => by cases z) (fun _ z => by cases z) hf
end
end DD

/-! Three comparisons in a chain, the empty dict, constants of a module that are tuples. -/
namespace DD
open PySem PySem.Spec PyProof.Rows L2
section
variable {X : Cx} {e a b c d : Expr} {fa fb fc fd : Ex} {pos : Pos} {k : Nat}
def mDict0 : Ex := fun _ S => some (.loc S.length, S ++ [.dic []])
theorem de_dict0 : DE X (.Dict [] [] pos) mDict0 := pew pe_dnewK fun σ H Q h => by
  obtain ⟨ρ, S, m, d, S', E, st, hf, q⟩ := h
  cases hf
  intro p hp
  have x := Ext.newC (o := HO.dK []) st hp
  refine q _ _ _ x (st.newC hp ⟨[], upd_same, .nil⟩) (.loc ?_)
  rw [← st.len, List.getElem?_concat_length]
/-- a name of the module that is bound to a value of the written part -/
def Kv (K : PySem.W.Frag) (mg : Str → Option Value) (x : Str) (d : D) : Prop := ∃ u v, mg x = some u ∧ RelV v u ∧ ∀ (H : Hp) (m : List Addr), Rep K H m d v
theorem de_kv {x : Str} {d : D} {p : Pos} (h : Kv X.K X.mg x d) (hg : Gl X x) (hd : (x == ("__debug__" : Str)) = false := by decide) : DE X (.Name x p) (mC d) := by
  obtain ⟨u, v, h1, h2, h3⟩ := h
  refine pew (pe_glob hg h1 h2 hd) fun σ H Q h => ?_
  obtain ⟨ρ, S, m, d, S', E, st, hf, q⟩ := h
  cases hf
  exact q _ H m (Ext.refl _ _) st (h3 H m)
theorem de_gi {x : Str} {i : Int} {p : Pos} (h : ∃ u, X.mg x = some u ∧ RelV (.int i) u) (hg : Gl X x) (hd : (x == ("__debug__" : Str)) = false := by decide) : DE X (.Name x p) (mC (.int i)) := by
  obtain ⟨u, h1, h2⟩ := h
  exact de_kv ⟨u, .int i, h1, h2, fun _ _ => .int _⟩ hg hd
/-- a tuple of texts of the written part -/
theorem kv_strs {K : PySem.W.Frag} {h : Heap} {mg : Str → Option Value} {x : Str} {a : Addr} {o : Obj} {its : List (Str × Tok)} {n : Nat} (hm : mg x = some (.ref a)) (hl : K.lookup a = some o) (hc : o.cls = .type "tuple") (hd : o.data = .seq (its.map fun p => Value.str p.1 p.2).toArray n) (hs : its.length ≤ sizeLine) :
    Kv K mg x (.tup (its.map fun p => .str p.1)) := by
  refine ⟨.ref a, .ref a, hm, rfl, fun H m => ?_⟩
  have r : ∀ l : List (Str × Tok), Vals (l.map fun p => V.str p.1) (l.map fun p => Value.str p.1 p.2) := by
    intro l
    induction l with
    | nil => exact .nil
    | cons p l ih => exact .cons ⟨p.2, rfl⟩ ih
  have q : ∀ l : List (Str × Tok), RepL K H m (l.map fun p => .str p.1) (l.map fun p => V.str p.1) := by
    intro l
    induction l with
    | nil => exact .nil
    | cons p l ih => exact .cons (.str _) ih
  exact .tup (.inr ⟨o, _, n, hl, hc, hd, by simpa using hs, by simpa using r its⟩) (q its)
/-! ### a op b op' c op'' d -/
def tChain3 (r r' r'' : R2) (ta tb tc td : TE) : TE := fun σ H Q => ta σ H fun x H1 => tb σ H1 fun y H2 => r x y H2 fun z H3 => ∃ k, z = .bl k ∧
  (if k = true then tc σ H3 fun w H4 => r' y w H4 fun z' H5 => ∃ k', z' = .bl k' ∧ (if k' = true then td σ H5 fun v H6 => r'' w v H6 Q else Q (.bl false) H5) else Q (.bl false) H3)
theorem pe_chain3 {op op' op2 : CmpOp} {r r' r'' : R2} {ta tb tc td : TE} (ho : OpR X (compareOp op) r) (ho' : OpR X (compareOp op') r') (ho2 : OpR X (compareOp op2) r'') (ha : PE X a ta) (hb : PE X b tb) (hc : PE X c tc) (hd : PE X d td)
    (hm : lastMarks [op, op', op2] [b, c, d] = false := by with_unfolding_all rfl) : PE X (.Compare a [op, op', op2] [b, c, d] pos) (tChain3 r r' r'' ta tb tc td) := by
  refine ⟨fun pins s σ H Q I h => Compare_chain (thn (ha.run pins s σ H _ I h) fun v s1 ⟨x, H1, I1, r1, q1⟩ => chain_link (thn (hb.run pins s1 σ H1 _ I1 q1) fun u s2 ⟨y, H2, I2, r2, q2⟩ =>
    thn (ho pins s2 σ H2 x y v u _ I2 r1 r2 q2) fun g s3 ⟨z, H3, I3, r3, k, ek, q3⟩ => ?_)) hm⟩
  subst ek
  cases r3
  refine wpAny_truthy_bool ?_
  cases k
  · exact ite_ff ⟨.bl false, H3, I3, rfl, q3⟩
  refine ite_tt (chain_link (thn (hc.run pins s3 σ H3 _ I3 q3) fun w' s4 ⟨y', H4, I4, r4, q4⟩ => thn (ho' pins s4 σ H4 y y' u w' _ I4 r2 r4 q4) fun g s5 ⟨z, H5, I5, r5, k', ek, q5⟩ => ?_))
  subst ek
  cases r5
  refine wpAny_truthy_bool ?_
  cases k'
  · exact ite_ff ⟨.bl false, H5, I5, rfl, q5⟩
  exact ite_tt (chain_last (thn (hd.run pins s5 σ H5 _ I5 q5) fun w2 s6 ⟨z', H6, I6, r6, q6⟩ => ho2 pins s6 σ H6 y' z' w' w2 Q I6 r4 r6 q6))
def mChain3 (g g' g'' : Op2) (fa fb fc fd : Ex) : Ex := fun ρ S => (fa ρ S).bind fun p => (fb ρ p.2).bind fun q => (g p.1 q.1 q.2).bind fun r => match r.1 with
  | .bl true => (fc ρ r.2).bind fun c => (g' q.1 c.1 c.2).bind fun r' => match r'.1 with
    | .bl true => (fd ρ r'.2).bind fun d => g'' c.1 d.1 d.2
    | .bl false => some (.bl false, r'.2)
    | _ => none
  | .bl false => some (.bl false, r.2)
  | _ => none
theorem chain3_use {K : PySem.W.Frag} {r r' r'' : R2} {g g' g'' : Op2} (o : OpD K r g) (o' : OpD K r' g') (o2 : OpD K r'' g'') {σ : L2.St} {H : Hp} {Q : VK} (h : tE K (mChain3 g g' g'' fa fb fc fd) σ H Q) : tChain3 r r' r'' (tE K fa) (tE K fb) (tE K fc) (tE K fd) σ H Q := by
  obtain ⟨ρ, S, m, d', S', E, st, hf, q⟩ := h
  obtain ⟨p1, h1, hf⟩ := obind hf
  obtain ⟨p2, h2, hf⟩ := obind hf
  obtain ⟨p3, h3, hf⟩ := obind hf
  refine ⟨ρ, S, m, p1.1, p1.2, E, st, h1, fun v H1 m1 x1 s1 r1 => ⟨ρ, p1.2, m1, p2.1, p2.2, E.mono st x1, s1, h2, fun u H2 m2 x2 s2 r2 => ?_⟩⟩
  refine o H2 m2 p2.2 v u p1.1 p2.1 p3.1 p3.2 _ s2 (r1.mono s1 x2) r2 h3 fun w H3 m3 x3 s3 r3 => ?_
  have E3 := (E.mono st x1).mono s1 (x2.trans x3)
  have x03 := x1.trans (x2.trans x3)
  cases hp : p3.1 with
  | bl kk =>
    rw [hp] at hf r3
    cases r3
    refine ⟨kk, rfl, ?_⟩
    cases kk
    · rw [if_neg Bool.false_ne_true]
      cases hf
      exact q _ H3 m3 x03 s3 (.bl _)
    rw [if_pos rfl]
    obtain ⟨p4, h4, hf⟩ := obind hf
    obtain ⟨p5, h5, hf⟩ := obind hf
    refine ⟨ρ, p3.2, m3, p4.1, p4.2, E3, s3, h4, fun z H4 m4 x4 s4 r4 => ?_⟩
    refine o' H4 m4 p4.2 u z p2.1 p4.1 p5.1 p5.2 _ s4 ((r2.mono s2 x3).mono s3 x4) r4 h5 fun y H5 m5 x5 s5 r5 => ?_
    cases hp5 : p5.1 with
    | bl k5 =>
      rw [hp5] at hf r5
      cases r5
      refine ⟨k5, rfl, ?_⟩
      cases k5
      · rw [if_neg Bool.false_ne_true]
        cases hf
        exact q _ H5 m5 (x03.trans (x4.trans x5)) s5 (.bl _)
      rw [if_pos rfl]
      obtain ⟨p6, h6, hf⟩ := obind hf
      refine ⟨ρ, p5.2, m5, p6.1, p6.2, E3.mono s3 (x4.trans x5), s5, h6, fun z2 H6 m6 x6 s6 r6 => ?_⟩
      exact o2 H6 m6 p6.2 z z2 p4.1 p6.1 d' S' Q s6 ((r4.mono s4 x5).mono s5 x6) r6 hf fun y2 H7 m7 x7 s7 r7 => q y2 H7 m7 (x03.trans ((x4.trans x5).trans (x6.trans x7))) s7 r7
    | _ => rw [hp5] at hf; cases hf
  | _ => rw [hp] at hf; cases hf
theorem de_chain3 {op op' op2 : CmpOp} {r r' r'' : R2} {g g' g'' : Op2} (hr : OpR X (compareOp op) r) (o : OpD X.K r g) (hr' : OpR X (compareOp op') r') (o' : OpD X.K r' g') (hr2 : OpR X (compareOp op2) r'') (o2 : OpD X.K r'' g'') (ha : DE X a fa) (hb : DE X b fb) (hc : DE X c fc) (hd : DE X d fd)
    (hm : lastMarks [op, op', op2] [b, c, d] = false := by with_unfolding_all rfl) : DE X (.Compare a [op, op', op2] [b, c, d] pos) (mChain3 g g' g'' fa fb fc fd) := pew (pe_chain3 hr hr' hr2 ha hb hc hd hm) fun _ _ _ h => chain3_use o o' o2 h
theorem pt_chain3 {op op' op2 : CmpOp} {r r' r'' : R2} {ta tb tc td : TE} (ho : OpR X (compareOp op) r) (ho' : OpR X (compareOp op') r') (ho2 : OpR X (compareOp op2) r'') (ha : PE X a ta) (hb : PE X b tb) (hc : PE X c tc) (hd : PE X d td)
    (hm : lastMarks [op, op', op2] [b, c, d] = false := by with_unfolding_all rfl) : PT X (.Compare a [op, op', op2] [b, c, d] pos) (tTest (tChain3 r r' r'' ta tb tc td)) := by
  refine ⟨fun pins s σ H Q I h => isTrue_chain (thn (ha.run pins s σ H _ I h) fun v s1 ⟨x, H1, I1, r1, q1⟩ => test_link (thn (hb.run pins s1 σ H1 _ I1 q1) fun u s2 ⟨y, H2, I2, r2, q2⟩ =>
    thn (ho pins s2 σ H2 x y v u _ I2 r1 r2 q2) fun g s3 ⟨z, H3, I3, r3, k, ek, q3⟩ => ?_)) hm⟩
  subst ek
  cases r3
  refine wpAny_truthy_bool ?_
  cases k
  · obtain ⟨kf, e0, q3⟩ := q3
    cases e0
    exact ite_ff ⟨H3, I3, q3⟩
  refine ite_tt (test_link (thn (hc.run pins s3 σ H3 _ I3 q3) fun w' s4 ⟨y', H4, I4, r4, q4⟩ => thn (ho' pins s4 σ H4 y y' u w' _ I4 r2 r4 q4) fun g s5 ⟨z, H5, I5, r5, k', ek, q5⟩ => ?_))
  subst ek
  cases r5
  refine wpAny_truthy_bool ?_
  cases k'
  · obtain ⟨kf, e0, q5⟩ := q5
    cases e0
    exact ite_ff ⟨H5, I5, q5⟩
  refine ite_tt (test_last (thn (hd.run pins s5 σ H5 _ I5 q5) fun w2 s6 ⟨z', H6, I6, r6, q6⟩ => thn (ho2 pins s6 σ H6 y' z' w' w2 _ I6 r4 r6 q6) fun g s7 ⟨z2, H7, I7, r7, k2, e2, q7⟩ => ?_))
  subst e2
  cases r7
  exact wpAny_truthy_bool ⟨H7, I7, q7⟩
theorem dt_chain3 {op op' op2 : CmpOp} {r r' r'' : R2} {g g' g'' : Op2} (hr : OpR X (compareOp op) r) (o : OpD X.K r g) (hr' : OpR X (compareOp op') r') (o' : OpD X.K r' g') (hr2 : OpR X (compareOp op2) r'') (o2 : OpD X.K r'' g'') (ha : DE X a fa) (hb : DE X b fb) (hc : DE X c fc) (hd : DE X d fd)
    (hm : lastMarks [op, op', op2] [b, c, d] = false := by with_unfolding_all rfl) : DT X (.Compare a [op, op', op2] [b, c, d] pos) (mB (mChain3 g g' g'' fa fb fc fd)) := ptw (pt_chain3 hr hr' hr2 ha hb hc hd hm) fun _ _ _ h => chain3_use o o' o2 (useB h)
end
end DD

/-! Texts: join, split, partition, strip, int of a text, a text in a text. -/
namespace DD
open PySem PySem.Spec PyProof.Rows L2
section
variable {X : Cx} {e a b c d : Expr} {fa fb fc fd fo fe : Ex} {ga : As} {pos : Pos} {k : Nat}
def strOf : D → Option Str
  | .str x => some x
  | _ => none
def mSt1 (g : Op2) (fo fe : Ex) : Ex := fun ρ S => (fo ρ S).bind fun p => (strOf p.1).bind fun _ => (fe ρ p.2).bind fun q => g p.1 q.1 q.2
def mSt0 (g : Op1) (fo : Ex) : Ex := fun ρ S => (fo ρ S).bind fun p => (strOf p.1).bind fun _ => g p.1 p.2
theorem strOf_rep {K : PySem.W.Frag} {H : Hp} {m : List Addr} {d : D} {v : V} {x : Str} (r : Rep K H m d v) (h : strOf d = some x) : d = .str x ∧ v = .str x := by
  cases d with
  | str y => cases h; cases r; exact ⟨rfl, rfl⟩
  | _ => cases h
theorem st1_use {K : PySem.W.Frag} {r : V → List V → Hp → VK → Prop} {g : Op2} (o : OpD K (fun x y H Q => r x [y] H Q) g) {σ : L2.St} {H : Hp} {Q : VK} (h : tE K (mSt1 g fo fe) σ H Q) : tM1 r (tE K fo) (tE K fe) σ H Q := by
  obtain ⟨ρ, S, m, d', S', E, st, hf, q⟩ := h
  obtain ⟨p1, h1, hf⟩ := obind hf
  obtain ⟨z, hz, hf⟩ := obind hf
  obtain ⟨p2, h2, hf⟩ := obind hf
  exact ⟨ρ, S, m, p1.1, p1.2, E, st, h1, fun v H1 m1 x1 s1 r1 => ⟨⟨z, (strOf_rep r1 hz).2⟩, ρ, p1.2, m1, p2.1, p2.2, E.mono st x1, s1, h2, fun u H2 m2 x2 s2 r2 =>
    o H2 m2 p2.2 v u p1.1 p2.1 d' S' Q s2 (r1.mono s1 x2) r2 hf fun w H3 m3 x3 s3 r3 => q w H3 m3 ((x1.trans x2).trans x3) s3 r3⟩⟩
theorem st0_use {K : PySem.W.Frag} {r : V → List V → Hp → VK → Prop} {g : Op1} (o : Op1D K (fun xs H Q => ∃ x, xs = [x] ∧ r x [] H Q) g) {σ : L2.St} {H : Hp} {Q : VK} (h : tE K (mSt0 g fo) σ H Q) : tM0 r (tE K fo) σ H Q := by
  obtain ⟨ρ, S, m, d', S', E, st, hf, q⟩ := h
  obtain ⟨p1, h1, hf⟩ := obind hf
  obtain ⟨z, hz, hf⟩ := obind hf
  refine ⟨ρ, S, m, p1.1, p1.2, E, st, h1, fun v H1 m1 x1 s1 r1 => ⟨⟨z, (strOf_rep r1 hz).2⟩, ?_⟩⟩
  obtain ⟨x, ex, hx⟩ := o H1 m1 p1.2 v p1.1 d' S' Q s1 r1 hf fun w H3 m3 x3 s3 r3 => q w H3 m3 (x1.trans x3) s3 r3
  cases ex
  exact hx
theorem strs_rep {K : PySem.W.Frag} {H : Hp} {m : List Addr} : ∀ {ds : List D} {vs : List V} {ys : List Str}, RepL K H m ds vs → mapO strOf ds = some ys → vs = ys.map V.str
  | _, _, _, .nil, h => by cases h; rfl
  | d :: ds, _, _, .cons r t, h => by
    obtain ⟨y, h1, h⟩ := obind h
    obtain ⟨ys, h2, h⟩ := obind h
    cases h
    rw [(strOf_rep r h1).2, strs_rep t h2]
    rfl
theorem rep_strs {K : PySem.W.Frag} {H : Hp} {m : List Addr} : ∀ ys : List Str, RepL K H m (ys.map D.str) (ys.map V.str)
  | [] => .nil
  | y :: ys => .cons (.str y) (rep_strs ys)
/-- a.join(xs) -/
def joinD : Op2 := fun d e S => (strOf d).bind fun a => (seqOf S e).bind fun ds => (mapO strOf ds).bind fun ys => if (ys.map (·.length)).sum + ys.length * a.length ≤ 16777216 then some (.str (Txt.join a ys), S) else none
theorem de_join {apos : Pos} (ho : DE X a fo) (he : DE X e fe) (hs : starEach [e] X.env = [(false, eval e X.env)] := by rfl) (hbase : attributeBase a "join" X.env (eval a X.env) = eval a X.env := by rfl) (hline : (apos.endLine == pos.line) = true := by rfl) :
    DE X (.Call (.Attribute a "join" apos) [e] [] pos) (mSt1 joinD fo fe) := pew (pe_join ho he hs hbase hline) fun _ _ _ h => st1_use (fun H m S x y d e d' S' Q s rx ry h k => by
  obtain ⟨z, h1, g1⟩ := obind h
  obtain ⟨ds, h2, g2⟩ := obind g1
  obtain ⟨ys, h3, g3⟩ := obind g2
  clear h g1 g2
  obtain ⟨rfl, rfl⟩ := strOf_rep rx h1
  obtain ⟨p, vs, rfl, hq, rs⟩ := seqOf_rep s ry h2
  have e3 := strs_rep rs h3
  have h : (if (ys.map (·.length)).sum + ys.length * z.length ≤ 16777216 then some (D.str (Txt.join z ys), S) else none) = some (d', S') := g3
  by_cases hz : (ys.map (·.length)).sum + ys.length * z.length ≤ 16777216
  · rw [if_pos hz] at h
    cases h
    exact ⟨z, p, ys, rfl, rfl, by rw [← e3]; exact hq, hz, k _ H m (Ext.refl H m) s (.str _)⟩
  · rw [if_neg hz] at h; cases h) h
/-- a.split(b) -/
def splitD : Op2 := fun d e S => match d, e with
  | .str a, .str b => if (b.length == 0) = false ∧ a.length + 2 ≤ sizeLine then some (.loc S.length, S ++ [.lst ((Txt.split a b).map D.str)]) else none
  | _, _ => none
theorem de_split {apos : Pos} (ho : DE X a fo) (he : DE X e fe) (hs : starEach [e] X.env = [(false, eval e X.env)] := by rfl) (hbase : attributeBase a "split" X.env (eval a X.env) = eval a X.env := by rfl) (hline : (apos.endLine == pos.line) = true := by rfl) :
    DE X (.Call (.Attribute a "split" apos) [e] [] pos) (mSt1 splitD fo fe) := pew (pe_split ho he hs hbase hline) fun _ _ _ h => st1_use (fun H m S x y d e d' S' Q s rx ry h k => by
  match d, e, h with
  | .str z, .str t, h =>
    cases rx
    cases ry
    by_cases hz : (t.length == 0) = false ∧ z.length + 2 ≤ sizeLine
    · simp only [splitD, if_pos hz] at h
      cases h
      refine ⟨z, t, rfl, rfl, hz.1, hz.2, fun p hp => ?_⟩
      obtain ⟨q1, q2, q3⟩ := newL s (rep_strs (Txt.split z t)) hp
      exact k _ _ _ q1 q2 q3
    · simp only [splitD, if_neg hz] at h; cases h) h
/-- a.partition(b) -/
def partD : Op2 := fun d e S => match d, e with
  | .str a, .str b => if (b.length == 0) = false ∧ a.length ≤ sizeLine then some (.tup [.str (Txt.partition a b).1, .str (Txt.partition a b).2.1, .str (Txt.partition a b).2.2], S) else none
  | _, _ => none
theorem de_partition {apos : Pos} (ho : DE X a fo) (he : DE X e fe) (hs : starEach [e] X.env = [(false, eval e X.env)] := by rfl) (hbase : attributeBase a "partition" X.env (eval a X.env) = eval a X.env := by rfl) (hline : (apos.endLine == pos.line) = true := by rfl) :
    DE X (.Call (.Attribute a "partition" apos) [e] [] pos) (mSt1 partD fo fe) := pew (pe_partition ho he hs hbase hline) fun _ _ _ h => st1_use (fun H m S x y d e d' S' Q s rx ry h k => by
  match d, e, h with
  | .str z, .str t, h =>
    cases rx
    cases ry
    by_cases hz : (t.length == 0) = false ∧ z.length ≤ sizeLine
    · simp only [partD, if_pos hz] at h
      cases h
      exact ⟨z, t, rfl, rfl, hz.1, hz.2, fun p hp => k _ _ m (Ext.new1 hp) (s.new1 hp) (.tup (SqT.of upd_same) (rep_strs [(Txt.partition z t).1, (Txt.partition z t).2.1, (Txt.partition z t).2.2]))⟩
    · simp only [partD, if_neg hz] at h; cases h) h
/-- a.strip() -/
def stripD : Op1 := fun d S => match d with | .str a => if a.length ≤ sizeLine then some (.str (Txt.strip a), S) else none | _ => none
theorem de_strip {apos : Pos} (ho : DE X a fo) (hbase : attributeBase a "strip" X.env (eval a X.env) = eval a X.env := by rfl) (hline : (apos.endLine == pos.line) = true := by rfl) :
    DE X (.Call (.Attribute a "strip" apos) [] [] pos) (mSt0 stripD fo) := pew (pe_strip ho hbase hline) fun _ _ _ h => st0_use (fun H m S x d d' S' Q s r h k => by
  match d, h with
  | .str z, h =>
    cases r
    by_cases hz : z.length ≤ sizeLine
    · simp only [stripD, if_pos hz] at h
      cases h
      exact ⟨_, rfl, z, rfl, rfl, hz, k _ H m (Ext.refl H m) s (.str _)⟩
    · simp only [stripD, if_neg hz] at h; cases h) h
/-- int of an int, a truth value, a text of digits -/
def toIntA : Op1 := fun d S => match d with
  | .int i => some (.int i, S)
  | .bl b => some (.int (if b then 1 else 0), S)
  | .str a => if a.length ≤ 640 then (PySem.intText? a).bind fun n => some (.int n, S) else none
  | _ => none
theorem de_toIntA {p : Pos} (hg : Gl X "int") (hm : X.mg "int" = none) (ha : DA X [e] ga) (he : starEach [e] X.env = (false, eval e X.env) :: starEach [] X.env := by rfl) : DE X (.Call (.Name "int" p) [e] [] pos) (m1 toIntA ga) :=
  de_t1 (CallR.or call_int1 call_int_str) (fun H m S x d d' S' Q s r h k => by
    match d, h with
    | .int i, h => cases h; cases r; exact .inl (.inl ⟨i, rfl, k _ H m (Ext.refl H m) s (.int _)⟩)
    | .bl i, h => cases h; cases r; exact .inl (.inr ⟨i, rfl, k _ H m (Ext.refl H m) s (.int _)⟩)
    | .str z, h =>
      cases r
      by_cases hz : z.length ≤ 640
      · simp only [toIntA, if_pos hz] at h
        obtain ⟨n, h1, h⟩ := obind h
        cases h
        exact .inr ⟨z, n, rfl, h1, hz, k _ H m (Ext.refl H m) s (.int _)⟩
      · simp only [toIntA, if_neg hz] at h; cases h) hg hm (by decide +kernel) ha (by decide) (by decide) he
/-- a text in a text -/
def inSD : Op2 := cmpS fun x y => !(Builtin.Str.occurrences y x 0 y.length 1).isEmpty
theorem de_inS (ha : DE X a fa) (hb : DE X b fb) (hm : behindInMarks .In b = false := by rfl) : DE X (.Compare a [.In] [b] pos) (m2 inSD fa fb) := de_cmp op_in_str od_cmpS ha hb hm
theorem dt_inS (ha : DE X a fa) (hb : DE X b fb) (hm : behindInMarks .In b = false := by rfl) : DT X (.Compare a [.In] [b] pos) (mB (m2 inSD fa fb)) := dt_cmp op_in_str od_cmpS ha hb hm
end
end DD

/-! sorted(..) of tuples of ints and texts that are alike in kind, the first an int. -/
namespace DD
open PySem PySem.Spec PyProof.Rows L2 SrtO
def ltKey : Key → Key → Bool
  | .inl i, .inl j => decide (i < j)
  | .inr x, .inr y => strLt x y
  | .inl _, .inr _ => true
  | .inr _, .inl _ => false
def ltL : List Key → List Key → Bool
  | [], [] => false
  | [], _ :: _ => true
  | _ :: _, [] => false
  | a :: as, b :: bs => if a = b then ltL as bs else ltKey a b
theorem ltKey_irr (a : Key) : ltKey a a = false := by
  cases a with
  | inl i => exact decide_eq_false (by omega)
  | inr x => exact strLt_irr x
theorem ltKey_asym {a b : Key} (h : ltKey a b = true) : ltKey b a = false := by
  cases a <;> cases b
  · exact decide_eq_false (by have := of_decide_eq_true h; omega)
  · rfl
  · cases h
  · exact strLt_asym h
theorem ltKey_tr : ∀ {a b c : Key}, ltKey b a = false → ltKey c b = false → ltKey c a = false
  | .inl _, .inl _, .inl _, h1, h2 => decide_eq_false (by have := of_decide_eq_false h1; have := of_decide_eq_false h2; omega)
  | .inr _, .inr _, .inr _, h1, h2 => strLt_tr h1 h2
  | .inl _, .inl _, .inr _, _, _ => rfl
  | .inl _, .inr _, .inr _, _, _ => rfl
  | .inl _, .inr _, .inl _, _, h2 => by cases h2
  | .inr _, .inl _, _, h1, _ => by cases h1
  | .inr _, .inr _, .inl _, _, h2 => by cases h2
/-- texts: neither ahead of the other means the same -/
theorem strLt_tot {x y : Str} (h1 : strLt x y = false) (h2 : strLt y x = false) : x = y := by
  unfold strLt at *
  rw [decide_eq_false_iff_not, List.not_lt] at *
  have e : x.cps.toList = y.cps.toList := List.le_antisymm h2 h1
  cases x; cases y
  simp only at e
  rw [Array.toList_inj] at e
  rw [e]
theorem ltKey_tot {a b : Key} (h1 : ltKey a b = false) (h2 : ltKey b a = false) : a = b := by
  cases a <;> cases b
  · have := of_decide_eq_false h1
    have := of_decide_eq_false h2
    congr 1
    omega
  · cases h1
  · cases h2
  · exact congrArg Sum.inr (strLt_tot h1 h2)
theorem ltL_asym : ∀ {x y : List Key}, ltL x y = true → ltL y x = false
  | [], [], h => by cases h
  | [], _ :: _, _ => rfl
  | _ :: _, [], h => by cases h
  | a :: as, b :: bs, h => by
    unfold ltL at *
    by_cases e : a = b
    · rw [if_pos e] at h
      rw [if_pos e.symm]
      exact ltL_asym h
    · rw [if_neg e] at h
      rw [if_neg (Ne.symm e)]
      exact ltKey_asym h
theorem ltL_tr : ∀ {x y z : List Key}, ltL y x = false → ltL z y = false → ltL z x = false
  | [], _, [], _, _ => rfl
  | [], [], _ :: _, _, _ => rfl
  | [], _ :: _, _ :: _, _, _ => rfl
  | _ :: _, [], [], h, _ => by cases h
  | _ :: _, _ :: _, [], _, h => by cases h
  | _ :: _, [], _ :: _, h, _ => by cases h
  | a :: as, b :: bs, c :: cs, h1, h2 => by
    unfold ltL at *
    by_cases e1 : b = a
    · rw [if_pos e1] at h1
      by_cases e2 : c = b
      · rw [if_pos e2] at h2
        rw [if_pos (e2.trans e1)]
        exact ltL_tr h1 h2
      · rw [if_neg e2] at h2
        rw [if_neg (fun z => e2 (z.trans e1.symm)), ← e1]
        exact h2
    · rw [if_neg e1] at h1
      by_cases e2 : c = b
      · rw [if_neg (fun z => e1 (e2.symm.trans z)), e2]
        exact h1
      · rw [if_neg e2] at h2
        have h3 := ltKey_tr h1 h2
        by_cases e3 : c = a
        · rw [e3] at h2
          exact absurd (ltKey_tot h2 h1).symm e1
        · rw [if_neg e3]
          exact h3
theorem swoL : Swo ltL := ⟨fun _ _ h => ltL_asym h, fun _ _ _ h1 h2 => ltL_tr h1 h2⟩
def isNum : Key → Bool
  | .inl _ => true
  | .inr _ => false
def KeyV (k : Key) (v : Value) : Prop := match k with
  | .inl i => ∃ t, v = .int i t
  | .inr x => ∃ t, v = .str x t
section
variable {prog : Program} {w : World} {A : Around} {E : Value → Shared → Prop} {s : Shared}
def IsKL (h : Heap) (v : Value) (k : List Key) : Prop := ∃ a o vs n, v = .ref a ∧ h.get? a = some o ∧ o.cls = .type "tuple" ∧ o.data = .seq (List.toArray vs) n ∧ Paired KeyV k vs
theorem IsKL.keeps {h h' : Heap} {v : Value} {k : List Key} (p : IsKL h v k) (q : ∀ b o, h.get? b = some o → o.cls = .type "tuple" → h'.get? b = some o) : IsKL h' v k := by
  obtain ⟨a, o, vs, n, e, ho, hc, r⟩ := p
  exact ⟨a, o, vs, n, e, q _ _ ho hc, hc, r⟩
/-- kinds alike, the first an int -/
def Alike (p : List Bool) (k : List Key) : Prop := k.map isNum = p
theorem kl_firsts {h : Heap} {k : Value → List Key} {p : List Bool} : ∀ {vs : List Value}, (∀ v ∈ vs, IsKL h v (k v) ∧ Alike (true :: p) (k v)) → ∃ fs : List Value, PySem.W.KatTups h vs fs ∧ fs.length = vs.length ∧ ∀ f ∈ fs, ∃ x t, f = Value.int x t
  | [], _ => ⟨[], .nil, rfl, fun _ hm => by simp at hm⟩
  | v :: vs, hp => by
    obtain ⟨fs, h1, h2, h3⟩ := kl_firsts (vs := vs) fun v' hm => hp v' (List.mem_cons_of_mem _ hm)
    obtain ⟨⟨a, o, us, n, e, ho, hc, hd, kv⟩, al⟩ := hp v List.mem_cons_self
    subst e
    generalize k (.ref a) = kk at kv al
    cases kv with
    | nil => cases al
    | @cons x u xs us0 r1 r2 =>
      cases x with
      | inr z => cases al
      | inl i =>
        obtain ⟨t, rfl⟩ := r1
        refine ⟨.int i t :: fs, .cons ho hc hd (by simp) h1, by rw [List.length_cons, List.length_cons, h2], fun f hm => ?_⟩
        rcases List.mem_cons.mp hm with rfl | hm
        · exact ⟨_, t, rfl⟩
        · exact h3 f hm
/-- behind the first place -/
theorem kl_lex {fin : Bool} {Q : Bool → Shared → Prop} : ∀ (ks ls : List Key) (vs us : List Value) (i : Nat), Paired KeyV ks vs → Paired KeyV ls us → ks.map isNum = ls.map isNum → (ks = ls → fin = false) → Q (ltL ks ls) s → PySem.W.KatLex prog w A true fin Q (vs.zip us) (i + 1) s
  | _, _, _, _, i, .nil, .nil, _, hf, h => by
    rw [hf rfl]
    exact PySem.W.kat_nil h
  | _, _, _, _, i, .nil, .cons _ _, e, _, _ => by cases e
  | _, _, _, _, i, .cons _ _, .nil, e, _, _ => by cases e
  | x :: ks, y :: ls, v :: vs, u :: us, i, .cons r1 t1, .cons r2 t2, e, hf, h => by
    rw [List.map_cons, List.map_cons, List.cons.injEq] at e
    obtain ⟨e0, e1⟩ := e
    cases x with
    | inl a =>
      cases y with
      | inr b => cases e0
      | inl b =>
        obtain ⟨t, rfl⟩ := r1
        obtain ⟨t', rfl⟩ := r2
        refine PySem.W.kat_cons (SeqAt.EqAt.int_int a t b t' prog w _ _ (PySem.W.kat_go (fun z => ?_) (fun z => ?_)))
        · have ex : a = b := by simpa using z
          subst ex
          refine PySem.W.kat_yes (kl_lex ks ls vs us (i + 1) t1 t2 e1 (fun z => hf (by rw [z])) ?_)
          unfold ltL at h
          rwa [if_pos rfl] at h
        · have ex : ¬ a = b := by simpa using z
          unfold ltL at h
          rw [if_neg (fun z => ex (Sum.inl.inj z))] at h
          refine PySem.W.kat_no ?_
          rw [show (true && (i + 1) == 0) = false by simp]
          exact PySem.W.kat_one _ _ (PyProof.Rows.lt_int h)
    | inr a =>
      cases y with
      | inl b => cases e0
      | inr b =>
        obtain ⟨t, rfl⟩ := r1
        obtain ⟨t', rfl⟩ := r2
        refine PySem.W.kat_cons (SeqAt.EqAt.str_str a t b t' prog w _ _ (PySem.W.kat_go (fun z => ?_) (fun z => ?_)))
        · have ex : a = b := by simpa using z
          subst ex
          refine PySem.W.kat_yes (kl_lex ks ls vs us (i + 1) t1 t2 e1 (fun z => hf (by rw [z])) ?_)
          unfold ltL at h
          rwa [if_pos rfl] at h
        · have ex : ¬ a = b := by simpa using z
          unfold ltL at h
          rw [if_neg (fun z => ex (Sum.inr.inj z))] at h
          refine PySem.W.kat_no ?_
          rw [show (true && (i + 1) == 0) = false by simp]
          exact PySem.W.kat_one _ _ (PyProof.Rows.lt_str h)
theorem kl_cmp {vs : List Value} {k : Value → List Key} {p : List Bool} (hp : ∀ v ∈ vs, IsKL s.heap v (k v) ∧ Alike (true :: p) (k v)) : Cmp prog w A s (tuples' true) (fun p => p.1 ∈ vs) (lt2 fun v u => ltL (k v) (k u)) := by
  intro p q hm hm'
  obtain ⟨h1, a1⟩ := hp _ hm
  obtain ⟨h2, a2⟩ := hp _ hm'
  show wpAny (model prog w) A (keyLt' (tuples' true) p.1 q.1) (fun r s' => s' = s ∧ r = ltL (k p.1) (k q.1)) (fun _ _ => False) s
  generalize k p.1 = x at h1 a1 ⊢
  generalize k q.1 = y at h2 a2 ⊢
  obtain ⟨a, o, us, n, e, ho, hc, hd, kv⟩ := h1
  obtain ⟨a', o', us', n', e', ho', hc', hd', kv'⟩ := h2
  rw [e, e']
  refine PySem.W.kat_lt ho hd ho' hd' ?_
  have al : x.map isNum = y.map isNum := a1.trans a2.symm
  have sz : us.length = us'.length := by
    have l1 := Paired.length kv
    have l2 := Paired.length kv'
    have l3 := congrArg List.length al
    rw [List.length_map, List.length_map] at l3
    omega
  have fin : decide ((List.toArray us).size < (List.toArray us').size) = false := by
    rw [List.size_toArray, List.size_toArray, sz]
    exact decide_eq_false (Nat.lt_irrefl _)
  rw [fin]
  show PySem.W.KatLex prog w A true false _ (us.zip us') 0 s
  cases kv with
  | nil => cases a1
  | @cons x0 u0 xs us0 r1 t1 =>
    cases kv' with
    | nil => cases a2
    | @cons y0 u1 ys us1 r2 t2 =>
      cases x0 with
      | inr z => cases a1
      | inl i =>
        cases y0 with
        | inr z => cases a2
        | inl j =>
          obtain ⟨t, rfl⟩ := r1
          obtain ⟨t', rfl⟩ := r2
          rw [List.map_cons, List.map_cons, List.cons.injEq] at al
          refine PySem.W.kat_cons (SeqAt.EqAt.int_int i t j t' prog w _ _ (PySem.W.kat_go (fun z => ?_) (fun z => ?_)))
          · have ex : i = j := by simpa using z
            subst ex
            refine PySem.W.kat_yes (kl_lex xs ys us0 us1 0 t1 t2 al.2 (fun _ => rfl) ⟨rfl, ?_⟩)
            show ltL xs ys = ltL (Sum.inl i :: xs) (Sum.inl i :: ys)
            conv => rhs; unfold ltL
            rw [if_pos rfl]
          · have ex : ¬ i = j := by simpa using z
            refine PySem.W.kat_no (oneLt_int ⟨rfl, ?_⟩)
            show decide (i < j) = ltL (Sum.inl i :: xs) (Sum.inl j :: ys)
            unfold ltL
            rw [if_neg (fun z => ex (Sum.inl.inj z))]
            rfl
theorem sorted_kl {l : Addr} {vs : List Value} {k : Value → List Key} {p : List Bool} {Q : Value → Shared → Prop} (hl : s.heap.IsList l vs.toArray) (hz : vs.length ≤ sizeLine) (hp : ∀ v ∈ vs, IsKL s.heap v (k v) ∧ Alike (true :: p) (k v))
    (h : ∀ (h' : Heap) (d : Addr), (∀ b o, s.heap.get? b = some o → h'.get? b = some o) → s.heap.objs.size ≤ d → (∃ n, h'.get? d = some (seqObj "list" (isort (fun v u => ltL (k v) (k u)) vs).toArray n)) → Q (.ref d) { s with heap := h' }) :
    wpAny (model prog w) A (call (.builtin "sorted") [.ref l]) Q E s := by
  have O := swo_on swoL k
  refine sorted_ord O hl hz (fun h2 h₁ a ha kk => ?_) fun out hs hb => ?_
  · intro h' keep
    have ht : ∀ o, h₁.get? a = some o → o.cls ≠ .type "tuple" := fun o e c => by
      have e' : some o = some (seqObj "list" vs.toArray 0) := e.symm.trans ha
      cases e'
      exact absurd (Value.type.inj c) (by decide)
    have hp' : ∀ v ∈ vs, IsKL h' v (k v) ∧ Alike (true :: p) (k v) := fun v hm => ⟨(hp v hm).1.keeps fun b o e c => by
      obtain ⟨_, e2⟩ := kk b o e
      exact keep b o (fun z => by subst z; exact ht o e2 c) e2, (hp v hm).2⟩
    obtain ⟨fs, f1, f2, f3⟩ := kl_firsts hp'
    refine ⟨tuples' true, fun Q E hq => ?_, kl_cmp hp'⟩
    refine PySem.W.kat_kind (T := .type "int") f1 (by omega) (fun f hm => ?_) (by rfl) ?_
    · obtain ⟨x, t, rfl⟩ := f3 f hm
      exact PySem.W.Looks.now
    · rw [show (Value.type "int" != Value.type "tuple") = true by decide +kernel]
      exact hq
  · rw [isort_uniq O hs hb]
    exact h _ _ (fun b o e => sortedAll_old e) (Nat.le_succ _) (sortedAll_at s.heap vs _)
end
/-! ### upon data -/
def rSortL (K : PySem.W.Frag) : List V → Hp → VK → Prop := fun vs H Q => ∃ (a : Addr) (Z : List (V × List Key)) (p : List Bool), vs = [V.ref a] ∧ SqL K H a (Z.map (·.1)) ∧ (∀ z ∈ Z, Alike (true :: p) z.2 ∧ ∃ t, z.1 = .ref t ∧ SqT K H t (z.2.map kV)) ∧
  ∀ q, H q = none → Q (.ref q) (upd H q (.lst ((isort (fun x y => ltL x.2 y.2) Z).map (·.1))))
theorem keyV_of {k : Key} {v : Value} (r : RelV (kV k) v) : KeyV k v := by
  cases k with
  | inl i => exact r
  | inr x => exact r
theorem keysV_of : ∀ {ks : List Key} {us : List Value}, Vals (ks.map kV) us → Paired KeyV ks us
  | [], _, .nil => .nil
  | _ :: _, _, .cons r t => .cons (keyV_of r) (keysV_of t)
theorem keyV_fun {k k' : Key} {v : Value} (a : KeyV k v) (b : KeyV k' v) : k = k' := by
  cases k <;> cases k' <;> obtain ⟨t, e⟩ := a <;> obtain ⟨t', e'⟩ := b <;> rw [e] at e' <;> cases e' <;> rfl
theorem keysV_fun : ∀ {ks ls : List Key} {us : List Value}, Paired KeyV ks us → Paired KeyV ls us → ks = ls
  | _, _, _, .nil, .nil => rfl
  | _, _, _, .cons a t, .cons b u => by rw [keyV_fun a b, keysV_fun t u]
theorem isKL_fun {h : Heap} {v : Value} {k k' : List Key} (a : IsKL h v k) (b : IsKL h v k') : k = k' := by
  obtain ⟨x, o, us, n, e, ho, hc, hd, kv⟩ := a
  obtain ⟨x', o', us', n', e', ho', hc', hd', kv'⟩ := b
  rw [e] at e'
  cases e'
  rw [ho] at ho'
  cases ho'
  rw [hd] at hd'
  injection hd' with h1 _
  have h2 : us = us' := by simpa using congrArg Array.toList h1
  subst h2
  exact keysV_fun kv kv'
open Classical in
noncomputable def keyLV (h : Heap) (v : Value) : List Key := if e : ∃ k, IsKL h v k then choose e else []
theorem keyLV_eq {h : Heap} {v : Value} {k : List Key} (a : IsKL h v k) : keyLV h v = k := by
  unfold keyLV
  have e : ∃ k, IsKL h v k := ⟨k, a⟩
  rw [dif_pos e]
  exact isKL_fun (Classical.choose_spec e) a
section
variable {X : Cx} {e : Expr} {ga : As} {pos : Pos} {k : Nat}
theorem zip_ofL : ∀ {Z : List (V × List Key)} {us : List Value}, Vals (Z.map (·.1)) us → ∃ W : List (V × List Key × Value), Z = W.map (fun w => (w.1, w.2.1)) ∧ us = W.map (·.2.2) ∧ ∀ w ∈ W, RelV w.1 w.2.2
  | [], _, .nil => ⟨[], rfl, rfl, fun _ h => by cases h⟩
  | z :: Z, _, .cons (b := u) r t => by
    obtain ⟨W, h1, h2, h3⟩ := zip_ofL t
    refine ⟨(z.1, z.2, u) :: W, by rw [List.map_cons, ← h1], by rw [List.map_cons, ← h2], fun w hw => ?_⟩
    rcases List.mem_cons.mp hw with rfl | hw
    · exact r
    · exact h3 w hw
theorem call_sortL : CallR X (.builtin "sorted") (rSortL X.K) := by
  intro pins s σ H vs us Q I r h
  obtain ⟨a, Z, p, rfl, hs, hZ, q⟩ := h
  obtain ⟨its, rv, hl, hz⟩ := I.list hs
  obtain ⟨u, rfl, ru⟩ := vals1 r
  obtain rfl : u = Value.ref a := ru
  obtain ⟨W, rfl, rfl, hW⟩ := zip_ofL rv
  have hk : ∀ w ∈ W, IsKL s.heap w.2.2 w.2.1 ∧ Alike (true :: p) w.2.1 := fun w hw => by
    obtain ⟨al, t, et, ht⟩ := hZ (w.1, w.2.1) (List.mem_map.mpr ⟨w, hw, rfl⟩)
    have rw' := hW w hw
    have et' : w.1 = .ref t := et
    rw [et'] at rw'
    obtain ⟨its2, r2, ⟨o, ho, hc, n, hd⟩, _⟩ := I.tuple ht
    exact ⟨⟨t, o, its2, n, rw', ho, hc, hd, keysV_of r2⟩, al⟩
  have zz : (W.map (·.2.2)).length ≤ sizeLine := by simpa using hz
  refine sorted_kl (k := keyLV s.heap) (p := p) hl.isList zz (fun v hv => ?_) fun h' d kp hd hn => ?_
  · obtain ⟨w, hw, rfl⟩ := List.mem_map.mp hv
    rw [keyLV_eq (hk w hw).1]
    exact hk w hw
  · obtain ⟨n, hn⟩ := hn
    rw [isort_map, isort_congr (lt' := fun a b => ltL a.2.1 b.2.1) (fun x hx y hy => by rw [keyLV_eq (hk x hx).1, keyLV_eq (hk y hy).1])] at hn
    have e1 : (isort (fun x y : V × List Key => ltL x.2 y.2) (W.map fun w => (w.1, w.2.1))).map (·.1) = (isort (fun a b : V × List Key × Value => ltL a.2.1 b.2.1) W).map (·.1) := by
      rw [isort_map, List.map_map]; rfl
    have fin := q d (I.hok.fresh hd)
    rw [e1] at fin
    have pm := (isort_stb (swo_on swoL fun w : V × List Key × Value => w.2.1) W).perm.length_eq
    refine ⟨.ref d, upd H d (.lst ((isort (fun a b : V × List Key × Value => ltL a.2.1 b.2.1) W).map (·.1))), I.laid (t' := s.toks) kp hd ⟨?_, _, n, vals_map fun w hw => hW w (isort_mem.mp hw), hn⟩, rfl, fin⟩
    rw [List.length_map, pm]
    simpa using zz
def keysL : D → Option (List Key)
  | .tup ds => mapO keyOf ds
  | _ => none
def keysL0 (d : D) : List Key := (keysL d).getD []
abbrev byL (a b : D) : Bool := ltL (keysL0 a) (keysL0 b)
/-- tuples of ints and texts, alike in kind, the first an int -/
def alikeD (ds : List D) : Bool := match ds with
  | [] => true
  | d :: _ => ((keysL0 d).map isNum).head? == some true && ds.all fun x => (keysL x).isSome && (keysL0 x).map isNum == (keysL0 d).map isNum
def sortLD : Op1 := fun d S => (lstOf S d).bind fun ds => if alikeD ds = true then some (.loc S.length, S ++ [.lst (isort byL ds)]) else none
theorem keysRep {K : PySem.W.Frag} {H : Hp} {m : List Addr} : ∀ {ds : List D} {vs : List V} {ks : List Key}, RepL K H m ds vs → mapO keyOf ds = some ks → vs = ks.map kV
  | _, _, _, .nil, h => by cases h; rfl
  | d :: ds, _, _, .cons r t, h => by
    obtain ⟨y, h1, h⟩ := obind h
    obtain ⟨ys, h2, h⟩ := obind h
    cases h
    rw [keyOf_rep r h1, keysRep t h2]
    rfl
theorem alike_mem {ds : List D} (h : alikeD ds = true) : ∃ p, ∀ x ∈ ds, (∃ k, keysL x = some k) ∧ Alike (true :: p) (keysL0 x) := by
  cases ds with
  | nil => exact ⟨[], fun x hx => by cases hx⟩
  | cons d ds =>
    unfold alikeD at h
    rw [Bool.and_eq_true, List.all_eq_true] at h
    obtain ⟨h1, h2⟩ := h
    generalize (keysL0 d).map isNum = P at h1 h2
    cases P with
    | nil => cases h1
    | cons b p =>
      have hb : b = true := by simpa using h1
      subst hb
      refine ⟨p, fun x hx => ?_⟩
      have := h2 x hx
      rw [Bool.and_eq_true] at this
      exact ⟨Option.isSome_iff_exists.mp this.1, (by simpa using this.2 : (keysL0 x).map isNum = true :: p)⟩
theorem o1_sortL {K : PySem.W.Frag} : Op1D K (rSortL K) sortLD := by
  intro H m S x d d' S' Q s r h q
  obtain ⟨ds, h1, h⟩ := obind h
  by_cases hc : alikeD ds = true
  · rw [if_pos hc] at h; cases h
    obtain ⟨a, vs, rfl, hs, rs⟩ := lstOf_rep s r h1
    obtain ⟨L, rfl, rfl, hL⟩ := pairs_of rs
    obtain ⟨p, hp⟩ := alike_mem hc
    refine ⟨a, L.map fun p => (p.2, keysL0 p.1), p, rfl, by rw [List.map_map]; exact hs, fun z hz => ?_, fun p hp => ?_⟩
    · obtain ⟨w, hw, rfl⟩ := List.mem_map.mp hz
      obtain ⟨⟨k, hk⟩, al⟩ := hp w.1 (List.mem_map.mpr ⟨w, hw, rfl⟩)
      refine ⟨al, ?_⟩
      have hr := hL w hw
      show ∃ t, w.2 = .ref t ∧ SqT K H t ((keysL0 w.1).map kV)
      unfold keysL0
      rw [hk]
      generalize w.1 = dd at hk hr
      generalize w.2 = vv at hr
      cases dd with
      | tup es =>
        cases hr with
        | tup ht rs =>
          have := keysRep rs hk
          rw [this] at ht
          exact ⟨_, rfl, ht⟩
      | _ => cases hk
    · have e1 : (isort (fun x y : V × List Key => ltL x.2 y.2) (L.map fun p => (p.2, keysL0 p.1))).map (·.1) = (isort (fun a b : D × V => byL a.1 b.1) L).map (·.2) := by
        rw [isort_map, List.map_map]; rfl
      have e2 : isort byL (L.map (·.1)) = (isort (fun a b : D × V => byL a.1 b.1) L).map (·.1) := isort_map _ _
      rw [e1]
      have rr : RepL K H m (isort byL (L.map (·.1))) ((isort (fun a b : D × V => byL a.1 b.1) L).map (·.2)) := by
        rw [e2]
        exact repL_map fun p hp => hL p (isort_mem.mp hp)
      obtain ⟨q1, q2, q3⟩ := newL s rr hp
      exact q _ _ _ q1 q2 q3
  · rw [if_neg hc] at h; cases h
theorem de_sortL {p : Pos} (hg : Gl X "sorted") (hm : X.mg "sorted" = none) (ha : DA X [e] ga) (he : starEach [e] X.env = (false, eval e X.env) :: starEach [] X.env := by rfl) : DE X (.Call (.Name "sorted" p) [e] [] pos) (m1 sortLD ga) :=
  de_b1 call_sortL o1_sortL hg hm (by decide +kernel) ha (by decide) (by decide) he
end
end DD

/-! Sets of fewer than 64 tuples, whatever their keys are. -/
namespace DD
open PySem PySem.Spec PyProof.Rows L2
/-- what is asked of the keys of a set -/
structure SKey (P : Program) (w : World) (K : Type) [DecidableEq K] where
  kd : HeapKind P w K
  flat : K → Bool
  stay : ∀ {h h' : Heap} {k : K} {b : Addr}, (∀ c o vs n, h.get? c = some o → o.data = .seq vs n → h'.get? c = some o) → kd.is h k b → kd.is h' k b
  seqv : ∀ {h : Heap} {k : K} {b : Addr}, kd.is h k b → ∃ o vs n, h.get? b = some o ∧ o.data = .seq vs n
  own : ∀ {A : Around} {E : Value → Shared → Prop} {s : Shared} {k : K} {b : Addr} {Q : Bool → Shared → Prop}, kd.is s.heap k b → Q false s → wpAny (model P w) A (ofAClassStatement 8 (.ref b)) Q E s
  val : ∀ {A : Around} {E : Value → Shared → Prop} {s : Shared} {k : K} {b : Addr} {Q : Bool → Shared → Prop}, kd.is s.heap k b → Q (flat k) s → wpAny (model P w) A (hashByValue 8 (.ref b)) Q E s
/-! ### the search's way, purely -/
def pAt (m : Nat) (h : Int) (c : Nat) : SetTable.Probe := nth m (runAt m (SetTable.bits h % (m + 1)) (SetTable.bits h)) c
theorem pAt_on (m : Nat) (h : Int) (c q : Nat) : nth m (pAt m h c) q = pAt m h (c + q) := (nth_add m c _ q).symm
theorem pAt_no (m : Nat) (h : Int) (c : Nat) : (pAt m h c).dummy = none := by
  unfold pAt
  induction c with
  | zero => rfl
  | succ c ih =>
    rw [nth_succ]
    unfold adv
    split
    · exact ih
    · exact ih
/-- what a probe from the c-th step answers -/
theorem step_ask {t : SetTable} {hs : List Int} (T : TabOk t hs) (at_ : Nat → Int) (h : Int) {c K : Nat} (hc : c ≤ K) (hK : K < 10 * SetTable.turns t.mask) (he : way t.mask h K ∉ t.place.toList) (hb : ∀ c, c < K → way t.mask h c ∈ t.place.toList) :
    (∃ d i, c ≤ d ∧ d < K ∧ t.place.toList[i]? = some (way t.mask h d) ∧ at_ i = h ∧ (∀ d' i', c ≤ d' → d' < d → t.place.toList[i']? = some (way t.mask h d') → at_ i' ≠ h) ∧ t.probe at_ h (pAt t.mask h c) = some (.candidate (way t.mask h d) i (pAt t.mask h (d + 1)))) ∨
    ((∀ d' i', c ≤ d' → d' < K → t.place.toList[i']? = some (way t.mask h d') → at_ i' ≠ h) ∧ t.probe at_ h (pAt t.mask h c) = some (.empty (way t.mask h K) none)) := by
  have on : ∀ q, (nth t.mask (pAt t.mask h c) q).j = way t.mask h (c + q) := fun q => congrArg SetTable.Probe.j (pAt_on t.mask h c q)
  have two := go_spec t T.ris T.dm at_ h (10 * SetTable.turns t.mask) (K - c) (pAt t.mask h c) (pAt_no _ _ _) (by omega) (fun q hq => by rw [on]; exact hb _ (by omega)) (by rw [on, Nat.add_sub_cancel' hc]; exact he)
  rcases two with ⟨q, i, h1, h2, h3, h4, h5⟩ | ⟨h4, h5⟩
  · refine .inl ⟨c + q, i, by omega, by omega, by rw [← on]; exact h2, h3, fun d' i' l1 l2 l3 => ?_, ?_⟩
    · refine h4 (d' - c) i' (by omega) ?_
      rw [on, Nat.add_sub_cancel' l1]
      exact l3
    · rw [← on, show c + q + 1 = c + (q + 1) by omega, ← pAt_on]
      exact h5
  · refine .inr ⟨fun d' i' l1 l2 l3 => ?_, ?_⟩
    · refine h4 (d' - c) i' (by omega) ?_
      rw [on, Nat.add_sub_cancel' l1]
      exact l3
    · have z := on (K - c)
      rw [Nat.add_sub_cancel' hc] at z
      rw [← z]
      exact h5
/-! ### the set -/
section
variable {P : Program} {w : World} {K : Type} [DecidableEq K] {Z : SKey P w K} {A : Around} {E : Value → Shared → Prop} {s : Shared} {a : Addr} {L : List (Addr × K)} {es : Array (Int × Value)} {ep : Nat} {t : SetTable}
abbrev hsG (Z : SKey P w K) (L : List (Addr × K)) : List Int := L.map fun p => Z.kd.hash p.2
def rowG (Z : SKey P w K) (L : List (Addr × K)) : List (Int × Value) := L.map fun p => (Z.kd.hash p.2, Value.ref p.1)
structure SetG (Z : SKey P w K) (h : Heap) (a : Addr) (L : List (Addr × K)) (es : Array (Int × Value)) (ep : Nat) (t : SetTable) : Prop where
  obj : ∃ o, h.get? a = some o ∧ o.ExactSet ∧ o.data = .set es ep t
  rows : es.toList = rowG Z L
  tab : TabOk t (hsG Z L)
  dif : (L.map Prod.snd).Nodup
  keys : ∀ p ∈ L, Z.kd.is h p.2 p.1
  led : w.params.followText "set-order" = true ∨ t.led = true
  gap : 5 * L.length < 3 * t.mask
  few : L.length < 64
theorem rowG_len (es : Array (Int × Value)) (h : es.toList = rowG Z L) : es.size = L.length := by
  rw [← Array.length_toList, h]
  exact List.length_map _
theorem SetG.place (R : SetG Z s.heap a L es ep t) : t.place.size = L.length := by
  rw [R.tab.sz]
  exact List.length_map _
theorem fits_of {n : Nat} (hd : t.dummies = #[]) (hp : t.place.size = n) (hm : n ≤ t.mask) : t.fits n = true := by
  unfold SetTable.fits SetTable.fill
  rw [hd, hp, Bool.and_eq_true]
  exact ⟨beq_self_eq_true n, decide_eq_true hm⟩
theorem SetG.fit (R : SetG Z s.heap a L es ep t) : t.fits es.size = true := by
  have g := R.gap
  refine fits_of R.tab.dm ?_ ?_ <;> rw [rowG_len es R.rows]
  · exact R.place
  · omega
theorem SetG.nth (R : SetG Z s.heap a L es ep t) {i : Nat} {p : Addr × K} (h : L[i]? = some p) : es[i]? = some (Z.kd.hash p.2, Value.ref p.1) := by
  have e : es.toList[i]? = (rowG Z L)[i]? := by rw [R.rows]
  unfold rowG at e
  rw [Array.getElem?_toList, List.getElem?_map, h] at e
  exact e
theorem SetG.odd (R : SetG Z s.heap a L es ep t) : ¬ t.gaveWay = true := by
  unfold SetTable.gaveWay
  have := mask_odd R.tab.mok
  rw [this]
  exact fun z => by cases z
/-- asking among tuples shows nothing -/
theorem unseen {x : Addr} {k : K} {Q : Bool → Shared → Prop} (hx : Z.kd.is s.heap k x) {ys : List Value} (hy : ∀ y ∈ ys, ∃ (c : Addr) (k' : K), y = .ref c ∧ Z.kd.is s.heap k' c) (h : Q false s) : wpAny (model P w) A (searchCouldBeSeen (.ref x) ys) Q E s := by
  unfold searchCouldBeSeen
  refine wpAny_bind (wpAny_forIn_list _ (fun left acc s1 => s1 = s ∧ acc.1 = none ∧ ∀ y ∈ left, ∃ (c : Addr) (k' : K), y = .ref c ∧ Z.kd.is s.heap k' c) _ (fun y left acc s1 g => ?_) (fun acc s1 g => ?_) ys _ ⟨rfl, rfl, hy⟩)
  · obtain ⟨rfl, g1, g2⟩ := g
    obtain ⟨c, k', rfl, hc⟩ := g2 _ List.mem_cons_self
    have done : s1 = s1 ∧ (none : Option Bool) = none ∧ ∀ y ∈ left, ∃ (c : Addr) (k' : K), y = .ref c ∧ Z.kd.is s1.heap k' c := ⟨rfl, rfl, fun y hm => g2 y (List.mem_cons_of_mem _ hm)⟩
    dsimp only
    by_cases q : (x == c || (carriedByValue (.ref x) && carriedByValue (.ref c))) = true
    · exact wp_if_pos q (wpAny_pure done)
    · refine wp_if_neg q (wpAny_bind (Z.kd.quiet hx ?_))
      simp only [Bool.not_true, Bool.false_eq_true, if_false]
      refine wpAny_bind (Z.kd.quiet hc ?_)
      simp only [Bool.not_true, Bool.false_eq_true, if_false]
      refine wpAny_bind (Z.own hx ?_)
      simp only [Bool.false_eq_true, if_false]
      refine wpAny_bind (Z.own hc ?_)
      simp only [Bool.false_eq_true, if_false]
      exact wpAny_pure done
  · obtain ⟨rfl, g1, _⟩ := g
    obtain ⟨r1, r2⟩ := acc
    simp only at g1
    subst g1
    exact wpAny_pure h
abbrev rowHash (es : Array (Int × Value)) (i : Nat) : Int := (es[i]?.map (·.1)).getD 0
theorem SetG.hashAt (R : SetG Z s.heap a L es ep t) {i : Nat} {p : Addr × K} (h : L[i]? = some p) : rowHash es i = Z.kd.hash p.2 := by
  unfold rowHash
  rw [R.nth h]
  rfl
theorem SetG.hit (R : SetG Z s.heap a L es ep t) {i j : Nat} (h : t.place.toList[i]? = some j) : ∃ p, L[i]? = some p ∧ p ∈ L := by
  have h1 : i < L.length := by
    have := (List.getElem?_eq_some_iff.mp h).1
    rw [Array.length_toList, R.place] at this
    exact this
  exact ⟨L[i], List.getElem?_eq_getElem h1, List.getElem_mem h1⟩
/-- two places of the table at one slot are one -/
theorem TabOk.same {t : SetTable} {hs : List Int} (T : TabOk t hs) {i i' j : Nat} (h : t.place.toList[i]? = some j) (h' : t.place.toList[i']? = some j) : i = i' := by
  have e := (slot_live T.ris h).symm.trans (slot_live T.ris h')
  exact SetTable.Slot.live.inj e
theorem find_g (R : SetG Z s.heap a L es ep t) {x : Addr} {k : K} (hx : Z.kd.is s.heap k x) (hr : Z.kd.room A) {N : Nat} (hN : N < 10 * SetTable.turns t.mask)
    (hf : way t.mask (Z.kd.hash k) N ∉ t.place.toList) (hb : ∀ c, c < N → way t.mask (Z.kd.hash k) c ∈ t.place.toList) {Q : SetFound → Shared → Prop}
    (yes : k ∈ L.map Prod.snd → Q (.there none) s) (no : k ∉ L.map Prod.snd → Q (.free (way t.mask (Z.kd.hash k) N) false) s) :
    ∀ (n fuel c : Nat) (stand : Option SetTable.Probe), N - c = n → c ≤ N → n < fuel → stand.getD (t.probeStart (Z.kd.hash k)) = pAt t.mask (Z.kd.hash k) c →
      (∀ (i : Nat) (p : Addr × K), L[i]? = some p → p.2 = k → ∃ d, c ≤ d ∧ d < N ∧ t.place.toList[i]? = some (way t.mask (Z.kd.hash k) d)) →
      wpAny (model P w) A (setSearchFrom a (.ref x) (Z.kd.hash k) true fuel stand) Q E s := by
  intro n
  induction n using Nat.strongRecOn with
  | ind n ih =>
    intro fuel c stand hn hc hfu hst later
    obtain ⟨o, ho, hex, hd⟩ := R.obj
    cases fuel with
    | zero => exact absurd hfu (Nat.not_lt_zero _)
    | succ fuel =>
      rw [setSearchFrom_succ]
      refine wpAny_bind (wpAny_setState_of ho hd R.fit ?_)
      dsimp only
      refine wp_if_neg R.odd ?_
      try refine wpAny_bind (wpAny_pure ?_)
      rw [hst]
      rcases step_ask R.tab (rowHash es) (Z.kd.hash k) hc hN hf hb with ⟨d, i, d1, d2, d3, d4, d5, d6⟩ | ⟨d5, d6⟩
      · rw [d6]
        dsimp only
        obtain ⟨p, hp, hm⟩ := R.hit d3
        have hpk := R.keys p hm
        have tail : wpAny (model P w) A (searchRest a (.ref x) (Z.kd.hash k) true fuel es t (way t.mask (Z.kd.hash k) d) i (pAt t.mask (Z.kd.hash k) (d + 1))) Q E s := by
          unfold searchRest
          rw [R.nth hp]
          refine wpAny_bind (wpAny_holding (Z.kd.eqBool hr hpk hx (wpAny_bind (wpAny_setState_of ho hd R.fit ?_))))
          dsimp only
          by_cases ek : p.2 = k
          · refine wp_if_pos (by simp [ek]) (wpAny_pure (yes (List.mem_map.mpr ⟨p, hm, ek⟩)))
          · refine wp_if_neg (by simp [ek]) ?_
            try refine wpAny_bind (wpAny_pure ?_)
            rw [sameMem]
            have sl : t.slot (way t.mask (Z.kd.hash k) d) = .live i := slot_live R.tab.ris d3
            simp only [if_true, sl, R.nth hp]
            refine wpAny_bind (wpAny_isSame_ref_self (wpAny_bind (wpAny_pure ?_)))
            simp only [if_true]
            refine wp_if_neg (by simp [ek]) ?_
            refine ih (N - (d + 1)) (by omega) fuel (d + 1) _ rfl d2 (by omega) rfl fun i' p' hp' ek' => ?_
            obtain ⟨d', l1, l2, l3⟩ := later i' p' hp' ek'
            have hk' : rowHash es i' = Z.kd.hash k := (R.hashAt hp').trans (congrArg Z.kd.hash ek')
            refine ⟨d', ?_, l2, l3⟩
            by_cases z : d' < d
            · exact absurd hk' (d5 d' i' l1 z l3)
            · by_cases z2 : d' = d
              · rw [z2] at l3
                have e := TabOk.same R.tab d3 l3
                rw [← e, hp] at hp'
                cases hp'
                exact absurd ek' ek
              · omega
        by_cases hl : t.led = true
        · refine wp_if_neg (by rw [hl]; decide) ?_
          try refine wpAny_bind (wpAny_pure ?_)
          exact tail
        · refine wp_if_pos (by simp [hl]) (wpAny_bind (unseen hx (fun y hy => ?_) ?_))
          · obtain ⟨e, he, rfl⟩ := List.mem_map.mp hy
            have he2 : e ∈ es.toList := by
              have : e ∈ es ∧ e.1 = Z.kd.hash k := by simpa using he
              simpa using this.1
            rw [R.rows] at he2
            obtain ⟨q, hq, rfl⟩ := List.mem_map.mp he2
            exact ⟨q.1, q.2, rfl, R.keys q hq⟩
          · refine wp_if_neg Bool.false_ne_true ?_
            try refine wpAny_bind (wpAny_pure ?_)
            exact tail
      · rw [d6]
        refine wpAny_pure (no fun hm => ?_)
        obtain ⟨p, hp, ek⟩ := List.mem_map.mp hm
        obtain ⟨i, hi, e⟩ := List.getElem_of_mem hp
        have hp' : L[i]? = some p := by rw [List.getElem?_eq_getElem hi, e]
        obtain ⟨d', l1, l2, l3⟩ := later i p hp' ek
        exact d5 d' i l1 l2 l3 ((R.hashAt hp').trans (congrArg Z.kd.hash ek))
theorem ask_g (R : SetG Z s.heap a L es ep t) {x : Addr} {k : K} (hx : Z.kd.is s.heap k x) (hr : Z.kd.room A) {Q : SetFound → Shared → Prop} (yes : k ∈ L.map Prod.snd → Q (.there none) s)
    (no : ∀ N, k ∉ L.map Prod.snd → way t.mask (Z.kd.hash k) N ∉ t.place.toList → (∀ c, c < N → way t.mask (Z.kd.hash k) c ∈ t.place.toList) → Q (.free (way t.mask (Z.kd.hash k) N) false) s) :
    wpAny (model P w) A (setSearch a (.ref x) (Z.kd.hash k) true) Q E s := by
  have hg := R.gap
  have hm := R.tab.mok
  obtain ⟨N, h1, h2, h3⟩ := R.tab.first (by rw [List.length_map]; omega) (Z.kd.hash k)
  have hbig : 10 * SetTable.turns t.mask < 100000 := by
    unfold SetTable.turns
    rcases hm with e | e | e <;> rw [e] <;> decide
  unfold setSearch
  refine find_g R hx hr h1 h2 h3 yes (fun hn => no N hn h2 h3) (N - 0) 100000 0 none rfl (Nat.zero_le _) (by omega) rfl fun i p hp ek => ?_
  have hi : i < t.place.toList.length := by
    rw [Array.length_toList, R.place]
    exact (List.getElem?_eq_some_iff.mp hp).1
  have hh : (hsG Z L)[i]? = some (Z.kd.hash k) := by
    rw [List.getElem?_map, hp, ← ek]
    rfl
  obtain ⟨d, hd, e⟩ := R.tab.before h2 hh (List.getElem?_eq_getElem hi)
  exact ⟨d, Nat.zero_le _, hd, by rw [List.getElem?_eq_getElem hi, e]⟩
end
end DD

/-! Sets of tuples: adding. -/
namespace DD
open PySem PySem.Spec PyProof.Rows L2
theorem range_pick {α : Type} : ∀ l : List α, (List.range l.length).filterMap (fun i => l[i]?) = l
  | [] => rfl
  | x :: l => by
    rw [List.length_cons, List.range_succ_eq_map, List.filterMap_cons_some (f := fun i => (x :: l)[i]?) (b := x) rfl, List.filterMap_map]
    have e : ((fun i => (x :: l)[i]?) ∘ Nat.succ) = fun i => l[i]? := by
      funext i
      simp
    rw [e, range_pick l]
section
variable {P : Program} {w : World} {K : Type} [DecidableEq K] {Z : SKey P w K} {A : Around} {E : Value → Shared → Prop} {s : Shared} {a : Addr} {L : List (Addr × K)} {es : Array (Int × Value)} {ep : Nat} {t : SetTable}
theorem seqs_stay {h h' : Heap} {o : Obj} (ho : h.get? a = some o) (hd : o.data = .set es ep t) (sb : Heap.SameBut a h h') : ∀ c u vs n, h.get? c = some u → u.data = .seq vs n → h'.get? c = some u := by
  intro c u vs n hc hu
  by_cases e : c = a
  · rw [e, ho] at hc
    cases hc
    rw [hd] at hu
    cases hu
  · exact (sb.2 c e).trans hc
/-- the rows in another order -/
theorem rows_by (hr : es.toList = rowG Z L) {order : Array Nat} (hp : order.toList.Perm (List.range L.length)) :
    ∃ L2 : List (Addr × K), (order.filterMap (es[·]?)).toList = rowG Z L2 ∧ L2.Perm L ∧ hsG Z L2 = order.toList.map fun i => (es.map (·.1)).getD i 0 := by
  have look : ∀ i : Nat, es[i]? = (L[i]?).map fun p : Addr × K => (Z.kd.hash p.2, Value.ref p.1) := fun i => by
    rw [← Array.getElem?_toList, hr]
    exact List.getElem?_map ..
  refine ⟨order.toList.filterMap fun i => L[i]?, ?_, ?_, ?_⟩
  · rw [Array.toList_filterMap, rowG, List.map_filterMap]
    exact congrArg (fun f => List.filterMap f order.toList) (funext look)
  · have z := hp.filterMap fun i => L[i]?
    rwa [range_pick] at z
  · have all : ∀ i ∈ order.toList, i < L.length := fun i hi => List.mem_range.mp (hp.mem_iff.mp hi)
    generalize order.toList = l at all
    induction l with
    | nil => rfl
    | cons i l ih =>
      have hi := all i List.mem_cons_self
      have e1 : L[i]? = some L[i] := List.getElem?_eq_getElem hi
      rw [List.filterMap_cons_some e1, hsG, List.map_cons, List.map_cons]
      refine congr (congrArg List.cons ?_) (ih fun j hj => all j (List.mem_cons_of_mem _ hj))
      rw [Array.getD_eq_getD_getElem?, Array.getElem?_map, look, e1]
      rfl
theorem relay_g {o : Obj} (ho : s.heap.get? a = some o) (hex : o.ExactSet) (hd : o.data = .set es ep t) (hr : es.toList = rowG Z L) (hp : t.place.size = L.length) (dm : t.dummies = #[]) (hm : L.length ≤ t.mask) (dif : (L.map Prod.snd).Nodup) (keys : ∀ p ∈ L, Z.kd.is s.heap p.2 p.1)
    (led : w.params.followText "set-order" = true ∨ t.led = true) (few : L.length < 64) {wanted M : Nat} (hw : SetTable.sizeAbove wanted - 1 = M) (hM : MaskOk M) (h128 : SetTable.sizeAbove wanted ≤ 128) (gap : 5 * L.length < 3 * M) {Q : Unit → Shared → Prop}
    (hQ : ∀ h' L' es' ep' t', Heap.SameBut a s.heap h' → SetG Z h' a L' es' ep' t' → L'.Perm L → Q () { s with heap := h' }) : wpAny (model P w) A (setRelay a wanted) Q E s := by
  have sz := rowG_len (Z := Z) es hr
  obtain ⟨t', order, e, hperm, T, em, el, _, _⟩ := relaid_ok t (hs := es.map (·.1)) (wanted := wanted) hw hM (by rw [Array.size_map, sz]; omega)
  rw [Array.size_map, sz] at hperm
  obtain ⟨L2, r1, r2, r3⟩ := rows_by hr hperm
  have s2 : (order.filterMap (es[·]?)).size = es.size := by rw [rowG_len (Z := Z) _ r1, r2.length_eq, sz]
  rw [setRelay_eq]
  refine wpAny_bind (wpAny_setState_of ho hd (by rw [sz]; exact fits_of dm hp hm) ?_)
  refine wp_if_neg (by rw [sizeLine_eq]; omega) ?_
  try refine wpAny_bind (wpAny_pure ?_)
  rw [e]
  refine wpAny_bind (wp_if_neg (by rw [s2]; simp) ?_)
  try refine wpAny_bind (wpAny_pure ?_)
  refine wpAny_pure (wpAny_storeSet_of ho hd ?_ (by rw [s2, sz, sizeLine_eq]; omega))
  have sb : Heap.SameBut a s.heap (s.heap.update a (Obj.putSet (order.filterMap (es[·]?)) t')) := Heap.SameBut.update ..
  refine hQ _ L2 _ (ep + 1) t' sb ⟨⟨_, store_at ho hd, ⟨hex.1, hex.2.1, hex.2.2⟩, rfl⟩, r1, by rw [r3]; exact T, ?_, fun p q => Z.stay (seqs_stay ho hd sb) (keys p (r2.mem_iff.mp q)), by rw [el]; exact led, ?_, by rw [r2.length_eq]; exact few⟩ r2
  · exact (r2.map Prod.snd).nodup_iff.mpr dif
  · rw [r2.length_eq, em]
    exact gap
theorem tab_like {t t' : SetTable} {hs : List Int} (T : TabOk t hs) (h1 : t'.place = t.place) (h2 : t'.dummies = t.dummies) (h3 : t'.mask = t.mask) : TabOk t' hs :=
  ⟨by rw [h1]; exact T.ris, by rw [h2]; exact T.dm, by rw [h1]; exact T.sz, by rw [h3]; exact T.mok, by rw [h1, h3]; exact T.bd, by rw [h1, h3]; exact T.reach⟩
theorem add_g (R : SetG Z s.heap a L es ep t) {x : Addr} {k : K} (hx : Z.kd.is s.heap k x) (hr : Z.kd.room A) (hfew : L.length + 1 < 64) {Q : Bool → Shared → Prop}
    (hQ : ∀ b h' L' es' ep' t', Heap.SameBut a s.heap h' → SetG Z h' a L' es' ep' t' → (k ∈ L.map Prod.snd → L' = L) → (k ∉ L.map Prod.snd → L'.Perm ((x, k) :: L)) → Q b { s with heap := h' }) :
    wpAny (model P w) A (setAddHashed a (.ref x) (Z.kd.hash k)) Q E s := by
  obtain ⟨o, ho, hex, hd⟩ := R.obj
  have gap := R.gap
  unfold setAddHashed
  refine wpAny_holding ?_
  rw [show (100000 : Nat) = 99999 + 1 from rfl, setAddHashedIn_succ]
  refine wpAny_bind (wpAny_setState_of ho hd R.fit ?_)
  refine wp_if_neg (by simp [byScan, Value.scannable]) ?_
  try refine wpAny_bind (wpAny_pure ?_)
  refine wpAny_bind (ask_g R hx hr (fun hm => ?_) fun N hm h2 h3 => ?_)
  · exact wpAny_pure (hQ false s.heap L es ep t (Heap.SameBut.refl a s.heap) R (fun _ => rfl) fun z => absurd hm z)
  dsimp only
  refine wpAny_bind (wpAny_setState_of ho hd R.fit ?_)
  dsimp only
  obtain ⟨q1, q2, q3, q4, q5, _, _, _, q9⟩ := R.tab.put h2 h3
  rw [List.length_map] at q9
  generalize t.put (way t.mask (Z.kd.hash k) N) = pt at q1 q3 q4 q5 q9 ⊢
  obtain ⟨t1, j⟩ := pt
  dsimp only at q1 q3 q4 q5 q9 ⊢
  subst q1
  generalize SetTable.below t.place (way t.mask (Z.kd.hash k) N) = j at q2 q3 ⊢
  -- the rows with the new one
  have pm : (L.take j ++ (x, k) :: L.drop j).Perm ((x, k) :: L) := put_perm L j (x, k)
  have hrows : (SetTable.insertAt es j (Z.kd.hash k, Value.ref x)).toList = rowG Z (L.take j ++ (x, k) :: L.drop j) := by
    rw [SetTable.toList_insertAt, R.rows]
    simp [rowG, List.map_take, List.map_drop]
  have hhs : hsG Z (L.take j ++ (x, k) :: L.drop j) = (hsG Z L).take j ++ Z.kd.hash k :: (hsG Z L).drop j := by simp [hsG, List.map_take, List.map_drop]
  rw [← hhs] at q3
  generalize SetTable.insertAt es j (Z.kd.hash k, Value.ref x) = es1 at hrows ⊢
  generalize L.take j ++ (x, k) :: L.drop j = L1 at pm hrows q3
  have len1 : L1.length = L.length + 1 := pm.length_eq
  have dif1 : (L1.map Prod.snd).Nodup := (pm.map Prod.snd).nodup_iff.mpr (List.nodup_cons.mpr ⟨hm, R.dif⟩)
  have sz1 : es1.size = L.length + 1 := (rowG_len es1 hrows).trans len1
  -- behind the word of the hash
  have rest : ∀ bv : Bool, wpAny (model P w) A (do
      let t2 := if bv = true then t1 else { t1 with plain := false }
      storeSet a es1 t2
      if (!false && t2.tooFull) = true then setRelay a (SetTable.grown (es.size + 1))
      return true) Q E s := by
    intro bv
    dsimp only
    have f1 : (if bv = true then t1 else { t1 with plain := false }).place = t1.place := by cases bv <;> rfl
    have f2 : (if bv = true then t1 else { t1 with plain := false }).dummies = t1.dummies := by cases bv <;> rfl
    have f3 : (if bv = true then t1 else { t1 with plain := false }).mask = t1.mask := by cases bv <;> rfl
    have f4 : (if bv = true then t1 else { t1 with plain := false }).led = t1.led := by cases bv <;> rfl
    have f5 : (if bv = true then t1 else { t1 with plain := false }).fill = t1.fill := by cases bv <;> rfl
    generalize (if bv = true then t1 else { t1 with plain := false }) = t2 at f1 f2 f3 f4 f5 ⊢
    have T2 : TabOk t2 (hsG Z L1) := tab_like q3 f1 f2 f3
    have led2 : w.params.followText "set-order" = true ∨ t2.led = true := by rw [f4, q5]; exact R.led
    refine wpAny_bind (wpAny_storeSet_of ho hd ?_ (by rw [sz1, sizeLine_eq]; omega))
    have sb : Heap.SameBut a s.heap (s.heap.update a (Obj.putSet es1 t2)) := Heap.SameBut.update ..
    have ho2 := store_at (es' := es1) (t' := t2) ho hd
    generalize s.heap.update a (Obj.putSet es1 t2) = h2 at sb ho2 ⊢
    have keys2 : ∀ p ∈ L1, Z.kd.is h2 p.2 p.1 := fun p hp => by
      rcases List.mem_cons.mp (pm.mem_iff.mp hp) with e | e
      · rw [e]; exact Z.stay (seqs_stay ho hd sb) hx
      · exact Z.stay (seqs_stay ho hd sb) (R.keys p e)
    by_cases full : t2.tooFull = true
    · have hf : 3 * t.mask ≤ 5 * (L.length + 1) := by
        have z := full
        unfold SetTable.tooFull at z
        rw [decide_eq_true_eq, f5, q9, f3, q4] at z
        omega
      have two : (L.length = 4 ∧ t.mask = 7) ∨ (L.length = 18 ∧ t.mask = 31) := by
        rcases R.tab.mok with e | e | e <;> rw [e] at hf gap
        · exact .inl ⟨by omega, e⟩
        · exact .inr ⟨by omega, e⟩
        · omega
      have go : ∀ M, SetTable.sizeAbove (SetTable.grown (es.size + 1)) = M + 1 → MaskOk M → M ≤ 127 → 5 * (L.length + 1) < 3 * M →
          wpAny (model P w) A (setRelay a (SetTable.grown (es.size + 1))) (fun _ s' => wpAny (model P w) A (pure true) Q E s') E { s with heap := h2 } := fun M e1 e2 e3 e4 =>
        relay_g (s := { s with heap := h2 }) ho2 ⟨hex.1, hex.2.1, hex.2.2⟩ rfl hrows (by have z := T2.sz; rw [List.length_map] at z; exact z) T2.dm (by rw [len1, f3, q4]; rcases two with ⟨z1, z2⟩ | ⟨z1, z2⟩ <;> omega) dif1 keys2 led2 (by omega) (M := M) (by omega) e2 (by omega) (by omega)
          fun h3 L3 es3 ep3 t3 sb3 R3 pm3 => wpAny_pure (hQ true h3 L3 es3 ep3 t3 (sb.trans sb3) R3 (fun z => absurd z hm) fun _ => pm3.trans pm)
      have sz0 := rowG_len (Z := Z) es R.rows
      have gone : wpAny (model P w) A (setRelay a (SetTable.grown (es.size + 1))) (fun _ s' => wpAny (model P w) A (pure true) Q E s') E { s with heap := h2 } := by
        rcases two with ⟨z1, _⟩ | ⟨z1, _⟩
        · exact go 31 (by rw [sz0, z1, size_20]) (.inr (.inl rfl)) (by omega) (by omega)
        · exact go 127 (by rw [sz0, z1, size_76]) (.inr (.inr rfl)) (by omega) (by omega)
      first
        | exact wpAny_bind (wp_if_pos (by simp [full]) gone)
        | exact wp_if_pos (by simp [full]) (wpAny_bind gone)
    · have hf : ¬ 3 * t.mask ≤ 5 * (L.length + 1) := by
        have z := full
        unfold SetTable.tooFull at z
        rw [decide_eq_true_eq, f5, q9, f3, q4] at z
        omega
      have fin := hQ true h2 L1 es1 (ep + 1) t2 sb ⟨⟨_, ho2, ⟨hex.1, hex.2.1, hex.2.2⟩, rfl⟩, hrows, T2, dif1, keys2, led2, by rw [len1, f3, q4]; omega, by omega⟩ (fun z => absurd z hm) fun _ => pm
      first
        | exact wp_if_neg (by simp [full]) (wpAny_pure fin)
        | exact wpAny_bind (wp_if_neg (by simp [full]) (wpAny_pure (wpAny_pure fin)))
  by_cases hp : t1.plain = true
  · first
      | (refine wpAny_bind (wp_if_pos hp (Z.val hx ?_)); exact rest (Z.flat k))
      | (refine wp_if_pos hp (wpAny_bind (Z.val hx ?_)); exact rest (Z.flat k))
  · first
      | (refine wpAny_bind (wp_if_neg hp (wpAny_pure ?_)); exact rest true)
      | (refine wp_if_neg hp (wpAny_bind (wpAny_pure ?_)); exact rest true)
      | (refine wp_if_neg hp ?_; exact rest true)
end
end DD

/-! Sets of tuples: set(t) of a tuple of them. -/
namespace DD
open PySem PySem.Spec PyProof.Rows L2
/-- what a set has of the first i items -/
structure HasG {K : Type} (ks : List (Addr × K)) (i : Nat) (L : List (Addr × K)) : Prop where
  from_ : ∀ p ∈ L, p ∈ ks.take i
  all : ∀ p ∈ ks.take i, p.2 ∈ L.map Prod.snd
  le : L.length ≤ i
theorem HasG.start {K : Type} (ks : List (Addr × K)) : HasG ks 0 [] := ⟨fun _ h => by simp at h, fun _ h => by simp at h, Nat.le_refl _⟩
theorem HasG.old {K : Type} {ks L : List (Addr × K)} {i : Nat} {p : Addr × K} (g : HasG ks i L) (hp : ks[i]? = some p) (hm : p.2 ∈ L.map Prod.snd) : HasG ks (i + 1) L := by
  have e : ks.take (i + 1) = ks.take i ++ [p] := take_next hp
  refine ⟨fun q hq => e ▸ List.mem_append_left _ (g.from_ q hq), fun q hq => ?_, by have := g.le; omega⟩
  rw [e, List.mem_append, List.mem_singleton] at hq
  exact hq.elim (g.all q) fun z => z ▸ hm
theorem HasG.new {K : Type} {ks L L' : List (Addr × K)} {i : Nat} {p : Addr × K} (g : HasG ks i L) (hp : ks[i]? = some p) (pm : L'.Perm (p :: L)) : HasG ks (i + 1) L' := by
  have e : ks.take (i + 1) = ks.take i ++ [p] := take_next hp
  refine ⟨fun q hq => ?_, fun q hq => ?_, ?_⟩
  · rw [e, List.mem_append, List.mem_singleton]
    exact (List.mem_cons.mp (pm.mem_iff.mp hq)).elim .inr fun z => .inl (g.from_ q z)
  · rw [(pm.map Prod.snd).mem_iff, List.map_cons, List.mem_cons]
    rw [e, List.mem_append, List.mem_singleton] at hq
    exact hq.elim (fun z => .inr (g.all q z)) fun z => .inl (by rw [z])
  · rw [pm.length_eq, List.length_cons]
    have := g.le
    omega
section
variable {P : Program} {w : World} {K : Type} [DecidableEq K] {Z : SKey P w K} {A : Around} {E : Value → Shared → Prop} {s : Shared} {a : Addr} {L : List (Addr × K)} {es : Array (Int × Value)} {ep : Nat} {t : SetTable}
theorem SetG.moved {h h' : Heap} (R : SetG Z h a L es ep t) (ha : ∀ o, h.get? a = some o → h'.get? a = some o) (hk : ∀ p ∈ L, Z.kd.is h' p.2 p.1) : SetG Z h' a L es ep t := by
  obtain ⟨o, ho, r⟩ := R.obj
  exact ⟨⟨o, ha o ho, r⟩, R.rows, R.tab, R.dif, hk, R.led, R.gap, R.few⟩
theorem SKey.kept {h h' : Heap} {k : K} {b : Addr} (x : Z.kd.is h k b) (hk : ∀ c o, h.get? c = some o → h'.get? c = some o) : Z.kd.is h' k b := Z.stay (fun c o _ _ e _ => hk c o e) x
abbrev emptyTab (w : World) : SetTable := .fresh 0 0 (!w.params.followText "set-order")
abbrev emptySet (w : World) : Obj := { cls := .type "set", dict := none, data := .set #[] 0 (emptyTab w) }
theorem setG_empty {h : Heap} (ho : h.get? a = some (emptySet w)) : SetG Z h a [] #[] 0 (emptyTab w) := by
  refine ⟨⟨_, ho, ⟨rfl, rfl, rfl⟩, rfl⟩, rfl, ⟨List.Pairwise.nil, rfl, rfl, .inl rfl, (fun x hx => by cases hx), fun i h j hi => by simp at hi⟩, List.nodup_nil, (fun p hp => by cases hp), ?_, (by show 5 * 0 < 3 * 7; decide), (by show 0 < 64; decide)⟩
  cases q : w.params.followText "set-order"
  · right
    show (!w.params.followText "set-order") = true
    rw [q]
    rfl
  · exact .inl rfl
/-- the loop of update -/
theorem fill_g {I : Addr} {fp wr : List Addr} {G : Array GenState → Array GenState → Prop} {n : Nat} {Pv : Nat → Value → Prop} {St : Nat → Shared → Prop} {R : Result → Shared → Prop} (W : WalksS P w A.in1 I fp wr G n Pv St) (hf : a ∉ fp) {ks : List (Addr × K)} (hn : n = ks.length)
    (few : ∀ i L, i < ks.length → HasG ks i L → (L.map Prod.snd).Nodup → L.length < 63) (hv : ∀ i v, Pv i v → ∃ p, ks[i]? = some p ∧ v = .ref p.1) {h0 : Heap} (hk : ∀ p ∈ ks, Z.kd.is h0 p.2 p.1) (ha : h0.get? a = none) (hw : ∀ b ∈ wr, h0.get? b = none) (room : Z.kd.room A.in1) :
    ∀ (m i : Nat) (s : Shared), i + m = n → St i s → (∀ b o, h0.get? b = some o → s.heap.get? b = some o) → (∃ L es ep t, SetG Z s.heap a L es ep t ∧ HasG ks i L) →
      (∀ s' L es ep t, Moved (a :: wr) G s s' → SetG Z s'.heap a L es ep t → HasG ks n L → (∀ b o, h0.get? b = some o → s'.heap.get? b = some o) → R (.ok (.ret .none)) s') →
      codeAny (model P w) A (.builtin "set.update.loop" ⟨[.ref a, .ref I], []⟩) R s := by
  have aw : a ∉ wr := fun z => hf (W.sub a z)
  have more : ∀ b ∈ wr, b ∈ a :: wr := fun b hb => List.mem_cons_of_mem _ hb
  have still : ∀ {s s' : Shared}, Moved wr G s s' → (∀ b o, h0.get? b = some o → s.heap.get? b = some o) → ∀ b o, h0.get? b = some o → s'.heap.get? b = some o := fun mv k0 b o e =>
    mv.heap b o (fun z => by rw [hw b z] at e; cases e) (k0 b o e)
  intro m
  induction m with
  | zero =>
    rintro i s hi st k0 ⟨L, es, ep, t, hS, g⟩ fin
    have e : i = n := by omega
    subst e
    refine codeAny_builtin F.entry_set_update_loop ?_
    rw [Around.under_plainId F.plain_set_update_loop _]
    refine wpAny_bind (W.done s _ _ st fun s' mv => ?_)
    have k1 := still mv k0
    exact wpAny_pure (fin s' L es ep t (mv.mono more) (hS.moved (fun o z => mv.heap a o aw z) fun p hp => SKey.kept (hk p (List.mem_of_mem_take (g.from_ p hp))) k1) g k1)
  | succ m ih =>
    rintro i s hi st k0 ⟨L, es, ep, t, hS, g⟩ fin
    refine codeAny_builtin F.entry_set_update_loop ?_
    rw [Around.under_plainId F.plain_set_update_loop _]
    refine wpAny_bind (W.item i s _ _ (by omega) st fun v s1 hP st1 mv => ?_)
    obtain ⟨p, hp, rfl⟩ := hv i v hP
    have k1 := still mv k0
    have hx : Z.kd.is s1.heap p.2 p.1 := SKey.kept (hk p (List.mem_of_getElem? hp)) k1
    have hS1 := hS.moved (fun o z => mv.heap a o aw z) fun q hq => SKey.kept (hk q (List.mem_of_mem_take (g.from_ q hq))) k1
    refine wpAny_bind (wpAny_holding ?_)
    unfold setAdd
    refine wpAny_holding (wpAny_bind (Z.kd.pyHash room hx ?_))
    refine add_g (s := { s1 with toks := s1.toks + Z.kd.draws p.2 }) hS1 hx room (by have := few i L (by omega) g hS1.dif; omega) fun b h2 L2 es2 ep2 t2 sb hS2 c1 c2 => ?_
    have g2 : HasG ks (i + 1) L2 := by
      by_cases c : p.2 ∈ L.map Prod.snd
      · rw [c1 c]; exact g.old hp c
      · exact g.new hp (c2 c)
    have k2 : ∀ b o, h0.get? b = some o → h2.get? b = some o := fun b o e => (sb.2 b fun z => by rw [z, ha] at e; cases e).trans (k1 b o e)
    refine wpAny_pure ⟨plainId_quiet F.plain_set_update_loop _, ih (i + 1) _ (by omega) (W.frame _ s1 _ _ st1 (Nat.le_add_right _ _) fun b hb o e => ?_) k2 ⟨L2, es2, ep2, t2, hS2, g2⟩ fun s3 L3 es3 ep3 t3 mv3 hS3 g3 k3 => ?_⟩
    · rw [sb.2 b fun z => hf (z ▸ hb)]; exact e
    · refine fin s3 L3 es3 ep3 t3 (Moved.trans W.gtrans ((mv.mono more).then_heap (Nat.le_add_right _ _) fun b o hb e => ?_) mv3) hS3 g3 k3
      rw [sb.2 b fun z => hb (z ▸ List.mem_cons_self)]; exact e
theorem none_past {h : Heap} {b : Addr} (hb : h.objs.size ≤ b) : h.get? b = none := by
  cases q : h.get? b with
  | none => rfl
  | some o => exact absurd (Nat.lt_of_lt_of_le (Heap.lt_size q) hb) (Nat.lt_irrefl _)
theorem few_len {ks : List (Addr × K)} (h : ks.length < 64) : ∀ i L, i < ks.length → HasG ks i L → (L.map Prod.snd).Nodup → L.length < 63 := fun i L hi g _ => by have := g.le; omega
theorem nodup_sub_len {α : Type} [DecidableEq α] : ∀ {l m : List α}, l.Nodup → (∀ x ∈ l, x ∈ m) → l.length ≤ m.length
  | [], _, _, _ => Nat.zero_le _
  | x :: l, m, h, hs => by
    have hx : x ∈ m := hs x List.mem_cons_self
    have h2 := nodup_sub_len (l := l) (m := m.erase x) (List.nodup_cons.mp h).2 fun y hy => by
      have ne : y ≠ x := fun e => (List.nodup_cons.mp h).1 (e ▸ hy)
      exact (List.mem_erase_of_ne ne).mpr (hs y (List.mem_cons_of_mem _ hy))
    have := List.length_erase_of_mem hx
    have : 0 < m.length := List.length_pos_of_mem hx
    rw [List.length_cons]
    omega
theorem few_uniq {ks : List (Addr × K)} {us : List K} (h : ∀ p ∈ ks, p.2 ∈ us) (hu : us.length < 63) : ∀ i L, i < ks.length → HasG ks i L → (L.map Prod.snd).Nodup → L.length < 63 := fun i L _ g nd => by
  have := nodup_sub_len (m := us) nd fun x hx => by
    obtain ⟨p, hp, rfl⟩ := List.mem_map.mp hx
    exact h p (List.mem_of_mem_take (g.from_ p hp))
  rw [List.length_map] at this
  omega
set_option maxHeartbeats 6400000 in
/-- set(t) -/
theorem call_set_g {l : Addr} {items : Array Value} (ks : List (Addr × K)) {Q : Value → Shared → Prop} (calm : A.handled = none) (hl : s.heap.IsTuple l items) (hit : items.toList = ks.map fun p => Value.ref p.1) (hk : ∀ p ∈ ks, Z.kd.is s.heap p.2 p.1) (few : ∀ i L, i < ks.length → HasG ks i L → (L.map Prod.snd).Nodup → L.length < 63)
    (room : ∀ B : Around, B.units ≤ A.units + 8 → Z.kd.room B)
    (fin : ∀ (h' : Heap) (tk : Nat) L es ep t, SetG Z h' s.heap.objs.size L es ep t → HasG ks ks.length L → (∀ b o, s.heap.get? b = some o → h'.get? b = some o) → Q (.ref s.heap.objs.size) { s with heap := h', toks := tk }) :
    wpAny (model P w) A (call (.type "set") [.ref l]) Q E s := by
  have size : items.size = ks.length := by rw [← Array.length_toList, hit, List.length_map]
  obtain ⟨_, _, hmro⟩ := F.called_set.mro
  have hmade := F.called_set.made
  have hsub := F.called_set.sub
  refine wpAny_call (codeAny_of_tree ?_)
  show wpAny _ _ (callAny (.type "set") _) _ _ _
  refine wpAny_pure ⟨Code.quiet_builtin _ (by decide +kernel), codeAny_builtin F.entry_type_call ?_⟩
  rw [Around.under_plain (weight_type_call_type "set" [.ref l] []) rfl]
  have h1 := F.called_set.notType
  have h2 := F.called_set.canCreate
  have hct := F.typeCall_set_1 (.ref l)
  repeat (any_goals (first | assumption | wp_step))
  refine codeAny_mono (code_set_led1 (.ref l) (E := E) (Q₁ := fun x s₁ => x = .ref s.heap.objs.size ∧ s₁ = { s with heap := s.heap.push (emptySet w) }) ⟨rfl, rfl⟩) fun r s₁ hr => ?_
  cases r with
  | error e => exact hr
  | ok fl =>
    cases fl with
    | ret x =>
      obtain ⟨rfl, rfl⟩ := hr
      have new : (s.heap.push (emptySet w)).get? s.heap.objs.size = some (emptySet w) := Heap.get?_push_size _ rfl
      have hT : Shared.TypeIs { s with heap := s.heap.push (emptySet w) } (.ref s.heap.objs.size) "set" := ⟨_, new, rfl⟩
      have hli := F.called_set.init.lookup
      have hbi := F.called_set.init.bind (.ref s.heap.objs.size)
      repeat (any_goals (first | assumption | wp_step))
      refine codeAny_mono (codeAny_call_builtin (R := wants (fun r s₂ => r = .none ∧ ∃ h' tk L es ep t, s₂ = { s with heap := h', toks := tk } ∧ SetG Z h' s.heap.objs.size L es ep t ∧ HasG ks ks.length L ∧ (∀ b o, s.heap.get? b = some o → h'.get? b = some o)) E)
        F.called_set.init.plain F.entry_set_init (check_set_init_1 hT ?_)) fun r₂ s₂ hr₂ => ?_
      · obtain ⟨ol, hol, hcl, nl, hdl⟩ := hl
        obtain ⟨ocls, odict, odata, oslots⟩ := ol
        simp only at hcl hdl
        subst hcl hdl
        have hol' : (s.heap.push (emptySet w)).get? l = some { cls := .type "tuple", dict := odict, data := .seq items nl, slots := oslots } := Heap.get?_push_of_some _ hol
        have hl0 : s.heap.IsTuple l items := ⟨_, hol, rfl, nl, rfl⟩
        have hl1 : (s.heap.push (emptySet w)).IsTuple l items := ⟨_, hol', rfl, nl, rfl⟩
        have hsls := F.sub_tuple_set
        have hslf := F.sub_tuple_frozenset
        have hne : (Value.type "tuple" == Value.type "dict") = false := by decide
        unfold Builtin.«set.__init__» noKeywords Builtin.Frozenset.updateFrom
        generalize hPI : pyIter = PI
        wp_walk
        subst hPI
        refine wpAny_pyIter_tuple hl1 (wpAny_bind (wpAny_runValue ?_))
        have lt : l < s.heap.objs.size := Heap.lt_size hol
        have calm3 : A.in1.in1.in1.handled = none := by simp [calm]
        have ne : l ≠ (s.heap.push (emptySet w)).objs.size := by rw [Heap.size_push]; exact Nat.ne_of_lt (Nat.lt_succ_of_lt lt)
        have out : s.heap.objs.size ∉ [(s.heap.push (emptySet w)).objs.size, l] := by
          rw [Heap.size_push]
          simp only [List.mem_cons, List.not_mem_nil, or_false, not_or]
          exact ⟨Nat.ne_of_lt (Nat.lt_succ_self _), Nat.ne_of_gt lt⟩
        refine fill_g ((Walks.tuple calm3 _ l ne items).toS) out size few (fun i v hv => ?hv) hk (none_past (Nat.le_refl _)) (fun b hb => none_past ?hb) (room _ ?room) items.size 0 _ (Nat.zero_add _) ⟨⟨_, Heap.get?_push_size _ rfl, rfl, rfl⟩, hl1.push _⟩
          (fun b o e => Heap.get?_push_of_some _ (Heap.get?_push_of_some _ e)) ⟨[], #[], 0, emptyTab w, setG_empty (Heap.get?_push_of_some _ new), HasG.start ks⟩ ?fin
        case hv =>
          have q : items.toList[i]? = some v := by rw [Array.getElem?_toList]; exact hv
          rw [hit, List.getElem?_map] at q
          obtain ⟨p, h1, h2⟩ := Option.map_eq_some_iff.mp q
          exact ⟨p, h1, h2.symm⟩
        case hb =>
          rw [List.mem_singleton.mp hb, Heap.size_push]
          exact Nat.le_succ _
        case room =>
          show A.units + 1 + 1 + 1 ≤ _
          omega
        case fin =>
          intro s' L es ep t mv hS g k
          rw [size] at g
          obtain ⟨h', g2, d', tk', os'⟩ := s'
          have eg : g2 = s.gens := mv.gens
          have ed : d' = s.drawn := mv.drawn
          have eo : os' = s.os := mv.os
          subst eg ed eo
          exact wpAny_pure (wpAny_pure ⟨rfl, h', tk', L, es, ep, t, rfl, hS, g, k⟩)
      · cases r₂ with
        | error e => exact hr₂
        | ok fl₂ =>
          cases fl₂ with
          | ret r =>
            obtain ⟨rfl, h', tk, L, es, ep, t, rfl, hS, g, k⟩ := hr₂
            repeat (any_goals (first | assumption | wp_step))
            exact fin _ _ _ _ _ _ hS g k
          | _ => exact hr₂.elim
    | _ => exact hr.elim
set_option maxHeartbeats 6400000 in
/-- set(list) -/
theorem call_set_gl {l : Addr} {items : Array Value} (ks : List (Addr × K)) {Q : Value → Shared → Prop} (calm : A.handled = none) (hl : s.heap.IsList l items) (hit : items.toList = ks.map fun p => Value.ref p.1) (hk : ∀ p ∈ ks, Z.kd.is s.heap p.2 p.1) (few : ∀ i L, i < ks.length → HasG ks i L → (L.map Prod.snd).Nodup → L.length < 63)
    (room : ∀ B : Around, B.units ≤ A.units + 8 → Z.kd.room B)
    (fin : ∀ (h' : Heap) (tk : Nat) L es ep t, SetG Z h' s.heap.objs.size L es ep t → HasG ks ks.length L → (∀ b o, s.heap.get? b = some o → h'.get? b = some o) → Q (.ref s.heap.objs.size) { s with heap := h', toks := tk }) :
    wpAny (model P w) A (call (.type "set") [.ref l]) Q E s := by
  have size : items.size = ks.length := by rw [← Array.length_toList, hit, List.length_map]
  obtain ⟨_, _, hmro⟩ := F.called_set.mro
  have hmade := F.called_set.made
  have hsub := F.called_set.sub
  refine wpAny_call (codeAny_of_tree ?_)
  show wpAny _ _ (callAny (.type "set") _) _ _ _
  refine wpAny_pure ⟨Code.quiet_builtin _ (by decide +kernel), codeAny_builtin F.entry_type_call ?_⟩
  rw [Around.under_plain (weight_type_call_type "set" [.ref l] []) rfl]
  have h1 := F.called_set.notType
  have h2 := F.called_set.canCreate
  have hct := F.typeCall_set_1 (.ref l)
  repeat (any_goals (first | assumption | wp_step))
  refine codeAny_mono (code_set_led1 (.ref l) (E := E) (Q₁ := fun x s₁ => x = .ref s.heap.objs.size ∧ s₁ = { s with heap := s.heap.push (emptySet w) }) ⟨rfl, rfl⟩) fun r s₁ hr => ?_
  cases r with
  | error e => exact hr
  | ok fl =>
    cases fl with
    | ret x =>
      obtain ⟨rfl, rfl⟩ := hr
      have new : (s.heap.push (emptySet w)).get? s.heap.objs.size = some (emptySet w) := Heap.get?_push_size _ rfl
      have hT : Shared.TypeIs { s with heap := s.heap.push (emptySet w) } (.ref s.heap.objs.size) "set" := ⟨_, new, rfl⟩
      have hli := F.called_set.init.lookup
      have hbi := F.called_set.init.bind (.ref s.heap.objs.size)
      repeat (any_goals (first | assumption | wp_step))
      refine codeAny_mono (codeAny_call_builtin (R := wants (fun r s₂ => r = .none ∧ ∃ h' tk L es ep t, s₂ = { s with heap := h', toks := tk } ∧ SetG Z h' s.heap.objs.size L es ep t ∧ HasG ks ks.length L ∧ (∀ b o, s.heap.get? b = some o → h'.get? b = some o)) E)
        F.called_set.init.plain F.entry_set_init (check_set_init_1 hT ?_)) fun r₂ s₂ hr₂ => ?_
      · obtain ⟨ol, hol, hcl, nl, hdl⟩ := hl
        obtain ⟨ocls, odict, odata, oslots⟩ := ol
        simp only at hcl hdl
        subst hcl hdl
        have hol' : (s.heap.push (emptySet w)).get? l = some { cls := .type "list", dict := odict, data := .seq items nl, slots := oslots } := Heap.get?_push_of_some _ hol
        have hl0 : s.heap.IsList l items := ⟨_, hol, rfl, nl, rfl⟩
        have hl1 : (s.heap.push (emptySet w)).IsList l items := ⟨_, hol', rfl, nl, rfl⟩
        have hsls := F.sub_list_set
        have hslf := F.sub_list_frozenset
        have hne : (Value.type "list" == Value.type "dict") = false := by decide
        unfold Builtin.«set.__init__» noKeywords Builtin.Frozenset.updateFrom
        generalize hPI : pyIter = PI
        wp_walk
        subst hPI
        refine wpAny_pyIter_list hl1 (wpAny_bind (wpAny_runValue ?_))
        have lt : l < s.heap.objs.size := Heap.lt_size hol
        have calm3 : A.in1.in1.in1.handled = none := by simp [calm]
        have ne : l ≠ (s.heap.push (emptySet w)).objs.size := by rw [Heap.size_push]; exact Nat.ne_of_lt (Nat.lt_succ_of_lt lt)
        have out : s.heap.objs.size ∉ [(s.heap.push (emptySet w)).objs.size, l] := by
          rw [Heap.size_push]
          simp only [List.mem_cons, List.not_mem_nil, or_false, not_or]
          exact ⟨Nat.ne_of_lt (Nat.lt_succ_self _), Nat.ne_of_gt lt⟩
        refine fill_g ((Walks.list calm3 _ l ne items).toS) out size few (fun i v hv => ?hv) hk (none_past (Nat.le_refl _)) (fun b hb => none_past ?hb) (room _ ?room) items.size 0 _ (Nat.zero_add _) ⟨⟨_, Heap.get?_push_size _ rfl, rfl, rfl⟩, hl1.push _⟩
          (fun b o e => Heap.get?_push_of_some _ (Heap.get?_push_of_some _ e)) ⟨[], #[], 0, emptyTab w, setG_empty (Heap.get?_push_of_some _ new), HasG.start ks⟩ ?fin
        case hv =>
          have q : items.toList[i]? = some v := by rw [Array.getElem?_toList]; exact hv
          rw [hit, List.getElem?_map] at q
          obtain ⟨p, h1, h2⟩ := Option.map_eq_some_iff.mp q
          exact ⟨p, h1, h2.symm⟩
        case hb =>
          rw [List.mem_singleton.mp hb, Heap.size_push]
          exact Nat.le_succ _
        case room =>
          show A.units + 1 + 1 + 1 ≤ _
          omega
        case fin =>
          intro s' L es ep t mv hS g k
          rw [size] at g
          obtain ⟨h', g2, d', tk', os'⟩ := s'
          have eg : g2 = s.gens := mv.gens
          have ed : d' = s.drawn := mv.drawn
          have eo : os' = s.os := mv.os
          subst eg ed eo
          exact wpAny_pure (wpAny_pure ⟨rfl, h', tk', L, es, ep, t, rfl, hS, g, k⟩)
      · cases r₂ with
        | error e => exact hr₂
        | ok fl₂ =>
          cases fl₂ with
          | ret r =>
            obtain ⟨rfl, h', tk, L, es, ep, t, rfl, hS, g, k⟩ := hr₂
            repeat (any_goals (first | assumption | wp_step))
            exact fin _ _ _ _ _ _ hS g k
          | _ => exact hr₂.elim
    | _ => exact hr.elim
end
end DD

/-! Sets of tuples of ints and texts. -/
namespace DD
open PySem PySem.Spec PyProof.Rows L2 SrtO
section
variable {P : Program} {w : World} {A : Around} {E : Value → Shared → Prop} {s : Shared}
abbrev mixT (P : Program) (w : World) : HeapKind P w (List Key) := tupleKind (mixKind P w)
theorem items_keys {ks : List Key} {vs : List Value} (h : ItemsAre (mixKind P w) ks vs) : Paired KeyV ks vs := by
  induction h with
  | nil => exact .nil
  | @cons k v ks vs h1 _ ih =>
    rcases keyIs_shape h1 with ⟨i, t, rfl, rfl⟩ | ⟨x, t, rfl, rfl⟩
    · exact .cons ⟨t, rfl⟩ ih
    · exact .cons ⟨t, rfl⟩ ih
theorem keys_items {ks : List Key} {vs : List Value} (h : Paired KeyV ks vs) : ItemsAre (mixKind P w) ks vs := by
  induction h with
  | nil => exact .nil
  | @cons k v ks vs h1 _ ih =>
    cases k with
    | inl i => obtain ⟨t, rfl⟩ := h1; exact .cons (by simp [mixKind, keyIs, Value.isInt]) ih
    | inr x => obtain ⟨t, rfl⟩ := h1; exact .cons (by simp [mixKind, keyIs, Value.isStrOf]) ih
theorem mix_own {k : List Key} {b : Addr} {Q : Bool → Shared → Prop} (hk : (mixT P w).is s.heap k b) (h : Q false s) : wpAny (model P w) A (ofAClassStatement 8 (.ref b)) Q E s := by
  have hT : s.TypeIs (.ref b) "tuple" := IsTupleKey.typeIs hk
  obtain ⟨o, items, n, ho, _, hd, hi⟩ := hk
  have kv := items_keys hi
  unfold ofAClassStatement
  refine wpAny_bind (wpAny_typeOf hT ?_)
  simp only [show (("tuple" : String) == "tuple") = true by decide, if_true]
  try refine wpAny_bind (wpAny_pure ?_)
  try simp only [Bool.not_true, Bool.false_eq_true, if_false]
  refine wpAny_bind (wpAny_seqItems ho hd ?_)
  refine wpAny_bind ?_
  show wpAny _ _ (forIn items _ _) _ _ s
  rw [← Array.forIn_toList]
  refine wpAny_forIn_list _ (fun left acc s1 => s1 = s ∧ acc.1 = none ∧ ∃ ls, Paired KeyV ls left) _ ?_ ?_ _ _ ⟨rfl, rfl, k, kv⟩
  · rintro v left acc s1 ⟨rfl, g1, ls, g2⟩
    cases g2 with
    | @cons l _ ls' _ r t =>
      have e : ofAClassStatement 7 v = pure false := by
        cases l with
        | inl i => obtain ⟨tk, rfl⟩ := r; rfl
        | inr x => obtain ⟨tk, rfl⟩ := r; rfl
      rw [e]
      refine wpAny_bind (wpAny_pure ?_)
      simp only [Bool.false_eq_true, if_false]
      exact wpAny_pure ⟨rfl, rfl, ls', t⟩
  · rintro ⟨r1, r2⟩ s1 ⟨rfl, g1, _⟩
    simp only at g1
    subst g1
    exact wpAny_pure h
theorem mix_val {k : List Key} {b : Addr} {Q : Bool → Shared → Prop} (hk : (mixT P w).is s.heap k b) (h : Q (k.all isNum) s) : wpAny (model P w) A (hashByValue 8 (.ref b)) Q E s := by
  have hT : s.TypeIs (.ref b) "tuple" := IsTupleKey.typeIs hk
  obtain ⟨o, items, n, ho, _, hd, hi⟩ := hk
  have kv := items_keys hi
  unfold hashByValue
  refine wpAny_bind (wpAny_specialOf hT F.slot_tuple_hash.lookup ?_)
  refine wpAny_bind (wpAny_seqItems ho hd ?_)
  refine wpAny_bind ?_
  show wpAny _ _ (forIn items _ _) _ _ s
  rw [← Array.forIn_toList]
  refine wpAny_forIn_list _ (fun left acc s1 => s1 = s ∧ acc.1 = none ∧ ∃ ls, Paired KeyV ls left ∧ ls.all isNum = k.all isNum) _ ?_ ?_ _ _ ⟨rfl, rfl, k, kv, rfl⟩
  · rintro v left acc s1 ⟨rfl, g1, ls, g2, g3⟩
    cases g2 with
    | @cons l _ ls' _ r t =>
      cases l with
      | inl i =>
        obtain ⟨tk, rfl⟩ := r
        have e : hashByValue 7 (.int i tk) = pure true := rfl
        rw [e]
        refine wpAny_bind (wpAny_pure ?_)
        simp only [Bool.not_true, Bool.false_eq_true, if_false]
        exact wpAny_pure ⟨rfl, rfl, ls', t, by rw [← g3]; rfl⟩
      | inr x =>
        obtain ⟨tk, rfl⟩ := r
        have e : hashByValue 7 (.str x tk) = pure false := rfl
        have hk : k.all isNum = false := by rw [← g3]; rfl
        rw [hk] at h
        rw [e]
        refine wpAny_bind (wpAny_pure ?_)
        simp only [Bool.not_false, if_true]
        exact wpAny_pure (wpAny_pure h)
  · rintro ⟨r1, r2⟩ s1 ⟨rfl, g1, ls, g2, g3⟩
    simp only at g1
    subst g1
    cases g2
    have hk : k.all isNum = true := by rw [← g3]; rfl
    rw [hk] at h
    exact wpAny_pure h
def mixS (P : Program) (w : World) : SKey P w (List Key) where
  kd := mixT P w
  flat := fun k => k.all isNum
  stay := fun hk x => by
    obtain ⟨o, items, n, ho, hc, hd, hi⟩ := x
    exact ⟨o, items, n, hk _ o items n ho hd, hc, hd, hi⟩
  seqv := fun x => by
    obtain ⟨o, items, n, ho, hc, hd, hi⟩ := x
    exact ⟨o, items, n, ho, hd⟩
  own := fun hk h => mix_own hk h
  val := fun hk h => mix_val hk h
theorem mix_kl {h : Heap} {k : List Key} {b : Addr} (x : (mixS P w).kd.is h k b) : IsKL h (.ref b) k := by
  obtain ⟨o, items, n, ho, hc, hd, hi⟩ := x
  exact ⟨b, o, items.toList, n, rfl, ho, hc, by rw [Array.toArray_toList]; exact hd, items_keys hi⟩
theorem mix_room {B : Around} (h : B.units < cLine) : (mixS P w).kd.room B := h
end
end DD

/-! len and sorted of a set of tuples of ints and texts. -/
namespace DD
open PySem PySem.Spec PyProof.Rows L2 SrtO
theorem ltL_tot : ∀ {x y : List Key}, ltL x y = false → ltL y x = false → x = y
  | [], [], _, _ => rfl
  | [], _ :: _, h, _ => by cases h
  | _ :: _, [], _, h => by cases h
  | a :: as, b :: bs, h1, h2 => by
    unfold ltL at h1 h2
    by_cases e : a = b
    · rw [if_pos e] at h1
      rw [if_pos e.symm] at h2
      rw [e, ltL_tot h1 h2]
    · rw [if_neg e] at h1
      rw [if_neg (Ne.symm e)] at h2
      exact absurd (ltKey_tot h1 h2) e
/-- two sorted orders of the same things are one -/
theorem sorted_same {α : Type} {lt : α → α → Bool} : ∀ {l m : List α}, (∀ a ∈ l, ∀ b ∈ l, lt a b = false → lt b a = false → a = b) → Srtd lt l → Srtd lt m → l.Perm m → l = m
  | [], m, _, _, _, p => (List.nil_perm.mp p).symm
  | x :: l, [], _, _, _, p => by have := p.length_eq; simp at this
  | x :: l, y :: m, tot, h1, h2, p => by
    have e : x = y := by
      have hx : x ∈ y :: m := p.mem_iff.mp List.mem_cons_self
      have hy : y ∈ x :: l := p.mem_iff.mpr List.mem_cons_self
      rcases List.mem_cons.mp hx with e | hx
      · exact e
      rcases List.mem_cons.mp hy with e | hy'
      · exact e.symm
      exact tot x List.mem_cons_self y hy (srtd_head h2 x hx) (srtd_head h1 y hy')
    subst e
    rw [sorted_same (fun a ha b hb => tot a (List.mem_cons_of_mem _ ha) b (List.mem_cons_of_mem _ hb)) (List.pairwise_cons.mp h1).2 (List.pairwise_cons.mp h2).2 (List.perm_cons x |>.mp p)]
section
variable {P : Program} {w : World} {A : Around} {E : Value → Shared → Prop} {s : Shared} {a : Addr} {L : List (Addr × List Key)} {es : Array (Int × Value)} {ep : Nat} {t : SetTable}
abbrev byK (p q : Addr × List Key) : Bool := ltL p.2 q.2
theorem sorted_m {p : List Bool} {Q : Value → Shared → Prop} (R : SetG (mixS P w) s.heap a L es ep t) (calm : A.handled = none) (al : ∀ q ∈ L, Alike (true :: p) q.2)
    (fin : ∀ s' d c, (∀ b o, s.heap.get? b = some o → s'.heap.get? b = some o) → s'.gens = s.gens → s'.os = s.os → s.heap.objs.size ≤ d → s'.heap.get? d = some (seqObj "list" (List.toArray ((isort byK L).map fun q => Value.ref q.1)) c) → Q (.ref d) s') :
    wpAny (model P w) A (call (.builtin "sorted") [.ref a]) Q E s := by
  obtain ⟨o, ho, hex, hd⟩ := R.obj
  have few := R.few
  have sz := rowG_len (Z := mixS P w) es R.rows
  refine Calls.call_function_entry kind_sorted plain_sorted entry_sorted (args_sorted1 _) ?_
  unfold Builtin.«sorted»
  refine wpAny_bind (m := checkCount "sorted" 1 1 _) (wpAny_pure ?_)
  refine wpAny_bind (collect_set (A := A.in1) calm ⟨o, ho, hex.1, hd⟩ R.fit (by unfold scanBound; omega) R.tab.ris R.led fun s1 vs k1 hz g1 o1 pm => ?_)
  have refs : es.toList.map (·.2) = L.map fun q => Value.ref q.1 := by
    rw [R.rows, rowG, List.map_map]
    rfl
  rw [refs] at pm
  have vlen : vs.length = L.length := by rw [pm.length_eq, List.length_map]
  refine wpAny_bind (wpAny_newList ?_ (by rw [sizeLine_eq]; omega))
  have hl : (s1.heap.push (seqObj "list" vs.toArray 0)).get? s1.heap.objs.size = some (seqObj "list" vs.toArray 0) := Heap.get?_push_size _ rfl
  have up : ∀ b u, s.heap.get? b = some u → (s1.heap.push (seqObj "list" vs.toArray 0)).get? b = some u := fun b u e => Heap.get?_push_of_some _ (k1 b u e)
  have kl : ∀ h' : Heap, (∀ b u, s.heap.get? b = some u → u.cls = .type "tuple" → h'.get? b = some u) → ∀ q ∈ L, IsKL h' (.ref q.1) q.2 := fun h' keep q hq => (mix_kl (R.keys q hq)).keeps keep
  have val : ∀ v ∈ vs, ∃ q ∈ L, v = Value.ref q.1 := fun v hv => by
    obtain ⟨q, hq, e⟩ := List.mem_map.mp (pm.mem_iff.mp hv)
    exact ⟨q, hq, e.symm⟩
  have key : ∀ q ∈ L, keyLV s.heap (.ref q.1) = q.2 := fun q hq => keyLV_eq (mix_kl (R.keys q hq))
  have O := swo_on swoL (keyLV s.heap)
  refine wpAny_bind (wpAny_holding (wpAny_call_entry slot_list_sort ⟨_, hl, rfl⟩ entry_list_sort (list_sort_ord (s := { s1 with heap := s1.heap.push (seqObj "list" vs.toArray 0) }) (ltv := fun v u => ltL (keyLV s.heap v) (keyLV s.heap u)) O hl (by rw [sizeLine_eq]; omega) (fun h2 h' keep => ?srt) fun out hs hb => ⟨_, rfl, ?end_⟩) (args_list_sort _)))
  case srt =>
    have tups : ∀ b u, s.heap.get? b = some u → u.cls = .type "tuple" → h'.get? b = some u := fun b u e _ => keep b u (fun z => by
      have := Heap.lt_size e
      rw [z] at this
      exact absurd (Nat.lt_of_lt_of_le this hz) (Nat.lt_irrefl _)) (up b u e)
    have hp' : ∀ v ∈ vs, IsKL h' v (keyLV s.heap v) ∧ Alike (true :: p) (keyLV s.heap v) := fun v hv => by
      obtain ⟨q, hq, rfl⟩ := val v hv
      rw [key q hq]
      exact ⟨kl h' tups q hq, al q hq⟩
    obtain ⟨fs, f1, f2, f3⟩ := kl_firsts hp'
    refine ⟨tuples' true, fun Q E hq => ?_, kl_cmp (s := { s1 with heap := h' }) hp'⟩
    refine PySem.W.kat_kind (T := .type "int") f1 (by omega) (fun f hm => ?_) (by rfl) ?_
    · obtain ⟨x, t, rfl⟩ := f3 f hm
      exact PySem.W.Looks.now
    · rw [show (Value.type "int" != Value.type "tuple") = true by decide +kernel]
      exact hq
  case end_ =>
    have e : out = (isort byK L).map fun q => Value.ref q.1 := by
      have mem : ∀ v ∈ out, ∃ q ∈ L, v = Value.ref q.1 := fun v hv => val v (hb.perm.mem_iff.mp hv)
      refine sorted_same (lt := fun v u => ltL (keyLV s.heap v) (keyLV s.heap u)) (fun v hv u hu h1 h2 => ?_) hs ?_ ?_
      · obtain ⟨q, hq, rfl⟩ := mem v hv
        obtain ⟨r, hr, rfl⟩ := mem u hu
        rw [key q hq, key r hr] at h1 h2
        have ek := ltL_tot h1 h2
        have e2 : q = r := by
          obtain ⟨i, hi, e1⟩ := List.getElem_of_mem hq
          obtain ⟨j, hj, e3⟩ := List.getElem_of_mem hr
          have n := (List.getElem_inj (i := i) (j := j) (h₀ := by simpa using hi) (h₁ := by simpa using hj) R.dif).mp (by simp [e1, e3, ek])
          subst n
          exact e1.symm.trans e3
        rw [e2]
      · refine List.pairwise_map.mpr (List.Pairwise.imp_of_mem (fun {q r} hq hr h => ?_) (isort_srtd (swo_on swoL Prod.snd) L))
        show ltL (keyLV s.heap (.ref r.1)) (keyLV s.heap (.ref q.1)) = false
        rw [key q (isort_mem.mp hq), key r (isort_mem.mp hr)]
        exact h
      · exact hb.perm.trans (pm.trans ((isort_stb (swo_on swoL Prod.snd) L).perm.symm.map _))
    obtain ⟨c, hc⟩ := sortedHeap_at (vs := vs) (out := out.toArray) hl
    refine wpAny_pure ⟨_, rfl, fin _ s1.heap.objs.size c (fun b u eb => ?_) g1 o1 hz (by rw [← e]; exact hc)⟩
    have lt1 := Heap.lt_size (k1 b u eb)
    refine (sortedHeap_old (Nat.ne_of_lt lt1) (by rw [size_push']; exact Nat.lt_succ_of_lt lt1)).trans (up b u eb)
theorem len_m {Q : Value → Shared → Prop} (R : SetG (mixS P w) s.heap a L es ep t) (fin : ∀ tk tk', Q (.int L.length tk) { s with toks := tk' }) : wpAny (model P w) A (call (.builtin "len") [.ref a]) Q E s := by
  obtain ⟨o, ho, hex, hd⟩ := R.obj
  have few := R.few
  have sz := rowG_len (Z := mixS P w) es R.rows
  refine call_len_set ho hex hd R.fit (by omega) ?_
  rw [sz]
  exact fin _ _
end
/-! ### upon what is tracked -/
/-- a set without its tuples -/
def SetM0 (P : Program) (w : World) (h : Heap) (a : Addr) (L : List (Addr × List Key)) : Prop := ∃ (es : Array (Int × Value)) (ep : Nat) (t : SetTable), (∃ o, h.get? a = some o ∧ o.ExactSet ∧ o.data = .set es ep t) ∧ es.toList = rowG (mixS P w) L ∧ TabOk t (hsG (mixS P w) L) ∧ (L.map Prod.snd).Nodup ∧
  (w.params.followText "set-order" = true ∨ t.led = true) ∧ 5 * L.length < 3 * t.mask ∧ L.length < 64
def SetMO (P : Program) (w : World) (a : Addr) (L : List (Addr × List Key)) : HO := .ext fun h => SetM0 P w h a L
theorem setMO_ok {P : Program} {w : World} {H : Hp} {h : Heap} {a : Addr} {L : List (Addr × List Key)} (R : SetM0 P w h a L) : ObjOk P w H h a (SetMO P w a L) := by
  have R' := R
  obtain ⟨es, ep, t, ⟨o, ho, r⟩, q⟩ := R
  refine ⟨R', ⟨o, ho⟩, fun h1 h2 x k => ?_⟩
  obtain ⟨es', ep', t', ⟨o', ho', r'⟩, q'⟩ := x
  exact ⟨es', ep', t', ⟨o', k o' ho', r'⟩, q'⟩
section
variable {X : Cx}
theorem keyV_vals : ∀ {ks : List Key} {us : List Value}, Vals (ks.map kV) us → Paired KeyV ks us := fun h => keysV_of h
theorem Inv.isM {pins : List (Addr × Obj)} {σ : L2.St} {H : Hp} {s : Shared} {b : Addr} {k : List Key} (I : L2.Inv X pins σ H s) (h : SqT X.K H b (k.map kV)) : (mixS X.prog X.w).kd.is s.heap k b := by
  obtain ⟨its, r, ⟨o, ho, hc, n, hd⟩, _⟩ := I.tuple h
  exact ⟨o, its.toArray, n, ho, hc, hd, by simpa using keys_items (keysV_of r)⟩
theorem refsV : ∀ {ks : List (Addr × List Key)} {us : List Value}, Vals (ks.map fun p => V.ref p.1) us → us = ks.map fun p => Value.ref p.1
  | [], _, .nil => rfl
  | _ :: _, _, .cons r t => by
    cases r
    rw [refsV t]
    rfl
theorem valsR : ∀ ks : List (Addr × List Key), Vals (ks.map fun p => V.ref p.1) (ks.map fun p => Value.ref p.1)
  | [] => .nil
  | _ :: ks => .cons rfl (valsR ks)
def rSetM (K : PySem.W.Frag) (P : Program) (w : World) : List V → Hp → VK → Prop := fun xs H Q => ∃ (l : Addr) (ks : List (Addr × List Key)), xs = [V.ref l] ∧ (SqT K H l (ks.map fun p => V.ref p.1) ∨ SqL K H l (ks.map fun p => V.ref p.1)) ∧ (∀ p ∈ ks, SqT K H p.1 (p.2.map kV)) ∧ (∀ i L, i < ks.length → HasG ks i L → (L.map Prod.snd).Nodup → L.length < 63) ∧
  ∀ a L, H a = none → HasG ks ks.length L → (L.map Prod.snd).Nodup → Q (.ref a) (upd H a (SetMO P w a L))
theorem call_setM (hc : X.calm = true) (hu : X.A.units + 8 < cLine) : CallR X (.type "set") (rSetM X.K X.prog X.w) := by
  intro pins s σ H xs us Q I r h
  obtain ⟨l, ks, rfl, hl, hk, hf, q⟩ := h
  obtain ⟨u, rfl, ru⟩ := vals1 r
  obtain rfl : u = Value.ref l := ru
  have hn : H s.heap.objs.size = none := I.hok.fresh (Nat.le_refl _)
  rcases hl with hl | hl
  · obtain ⟨its, rv, ⟨o, ho, hcl, n, hd⟩, hz⟩ := I.tuple hl
    refine call_set_g (Z := mixS X.prog X.w) ks (I.ok.hd hc) (items := its.toArray) ⟨o, ho, hcl, n, hd⟩ (by simpa using refsV rv) (fun p hp => Inv.isM I (hk p hp)) hf (fun B hB => mix_room (Nat.lt_of_le_of_lt hB hu)) fun h' tk L es ep t R g k => ?_
    exact ⟨.ref s.heap.objs.size, upd H s.heap.objs.size (SetMO X.prog X.w s.heap.objs.size L), I.laid (t' := tk) k (Nat.le_refl _) (setMO_ok ⟨es, ep, t, R.obj, R.rows, R.tab, R.dif, R.led, R.gap, R.few⟩), rfl, q _ L hn g R.dif⟩
  · obtain ⟨its, rv, ls, hz⟩ := I.list hl
    refine call_set_gl (Z := mixS X.prog X.w) ks (I.ok.hd hc) (items := its.toArray) ls.isList (by simpa using refsV rv) (fun p hp => Inv.isM I (hk p hp)) hf (fun B hB => mix_room (Nat.lt_of_le_of_lt hB hu)) fun h' tk L es ep t R g k => ?_
    exact ⟨.ref s.heap.objs.size, upd H s.heap.objs.size (SetMO X.prog X.w s.heap.objs.size L), I.laid (t' := tk) k (Nat.le_refl _) (setMO_ok ⟨es, ep, t, R.obj, R.rows, R.tab, R.dif, R.led, R.gap, R.few⟩), rfl, q _ L hn g R.dif⟩
def rLenM (K : PySem.W.Frag) (P : Program) (w : World) : List V → Hp → VK → Prop := fun xs H Q => ∃ (a : Addr) (L : List (Addr × List Key)), xs = [V.ref a] ∧ H a = some (SetMO P w a L) ∧ (∀ q ∈ L, SqT K H q.1 (q.2.map kV)) ∧ Q (.int L.length) H
theorem call_lenM : CallR X (.builtin "len") (rLenM X.K X.prog X.w) := by
  intro pins s σ H xs us Q I r h
  obtain ⟨a, L, rfl, ha, hk, q⟩ := h
  obtain ⟨u, rfl, ru⟩ := vals1 r
  obtain rfl : u = Value.ref a := ru
  obtain ⟨es, ep, t, ob, h2, h3, h4, h5, h6, h7⟩ := (show SetM0 X.prog X.w s.heap a L from (I.hok a _ ha).1)
  have R : SetG (mixS X.prog X.w) s.heap a L es ep t := ⟨ob, h2, h3, h4, fun p hp => Inv.isM I (hk p hp), h5, h6, h7⟩
  exact len_m R fun tk tk' => ⟨.int L.length, H, I.tok tk', ⟨tk, rfl⟩, q⟩
def rSortM (K : PySem.W.Frag) (P : Program) (w : World) : List V → Hp → VK → Prop := fun xs H Q => ∃ (a : Addr) (L : List (Addr × List Key)) (p : List Bool), xs = [V.ref a] ∧ H a = some (SetMO P w a L) ∧ (∀ q ∈ L, SqT K H q.1 (q.2.map kV) ∧ Alike (true :: p) q.2) ∧
  ∀ d, H d = none → Q (.ref d) (upd H d (.lst ((isort byK L).map fun q => V.ref q.1)))
theorem call_sortM (hc : X.calm = true) : CallR X (.builtin "sorted") (rSortM X.K X.prog X.w) := by
  intro pins s σ H xs us Q I r h
  obtain ⟨a, L, p, rfl, ha, hk, q⟩ := h
  obtain ⟨u, rfl, ru⟩ := vals1 r
  obtain rfl : u = Value.ref a := ru
  obtain ⟨es, ep, t, ob, h2, h3, h4, h5, h6, h7⟩ := (show SetM0 X.prog X.w s.heap a L from (I.hok a _ ha).1)
  have R : SetG (mixS X.prog X.w) s.heap a L es ep t := ⟨ob, h2, h3, h4, fun p hp => Inv.isM I (hk p hp).1, h5, h6, h7⟩
  refine sorted_m R (I.ok.hd hc) (fun q hq => (hk q hq).2) fun s' d c k g o hd hn => ?_
  have hn0 : H d = none := I.hok.fresh hd
  have pmL := (isort_stb (swo_on swoL (Prod.snd : Addr × List Key → List Key)) L).perm.length_eq
  have few := R.few
  have hlen : ((isort byK L).map fun q => V.ref q.1).length ≤ sizeLine := by
    rw [List.length_map]
    have : (isort byK L).length = L.length := pmL
    rw [this, sizeLine_eq]
    omega
  have J : L2.Inv X pins σ (upd H d (.lst ((isort byK L).map fun q => V.ref q.1))) { s with heap := s'.heap, gens := s'.gens, drawn := s'.drawn, toks := s'.toks } :=
    I.call (ch := []) (Un.laid k hd hn0) (I.hok.laid k hd ⟨hlen, _, c, valsR (isort byK L), hn⟩) (by rw [g]; exact I.bare) (fun _ z => nomatch z)
  have e : s' = { s with heap := s'.heap, gens := s'.gens, drawn := s'.drawn, toks := s'.toks } := by
    cases s'
    cases s
    cases o
    rfl
  rw [e]
  exact ⟨.ref d, _, J, rfl, q d hn0⟩
end
end DD

/-! sorted(set(t)), len(set(t)) upon data. -/
namespace DD
open PySem PySem.Spec PyProof.Rows L2 SrtO
def dK : Key → D
  | .inl i => .int i
  | .inr x => .str x
def hasK (k : List Key) (ks : List (List Key)) : Bool := ks.any fun x => decide (x = k)
theorem hasK_iff {k : List Key} {ks : List (List Key)} : hasK k ks = true ↔ k ∈ ks := by
  unfold hasK
  rw [List.any_eq_true]
  exact ⟨fun ⟨x, h1, h2⟩ => of_decide_eq_true h2 ▸ h1, fun h => ⟨k, h, decide_eq_true rfl⟩⟩
def uniqK : List (List Key) → List (List Key)
  | [] => []
  | k :: ks => if hasK k (uniqK ks) = true then uniqK ks else k :: uniqK ks
theorem uniqK_mem {k : List Key} : ∀ {ks : List (List Key)}, k ∈ uniqK ks ↔ k ∈ ks
  | [] => Iff.rfl
  | x :: ks => by
    unfold uniqK
    by_cases h : hasK x (uniqK ks) = true
    · rw [if_pos h, uniqK_mem (ks := ks), List.mem_cons]
      refine ⟨.inr, fun q => q.elim (fun e => ?_) id⟩
      rw [e]
      exact uniqK_mem.mp (hasK_iff.mp h)
    · rw [if_neg h, List.mem_cons, List.mem_cons, uniqK_mem (ks := ks)]
theorem uniqK_nodup : ∀ ks : List (List Key), (uniqK ks).Nodup
  | [] => List.nodup_nil
  | x :: ks => by
    unfold uniqK
    by_cases h : hasK x (uniqK ks) = true
    · rw [if_pos h]; exact uniqK_nodup ks
    · rw [if_neg h]; exact List.nodup_cons.mpr ⟨fun z => h (hasK_iff.mpr z), uniqK_nodup ks⟩
theorem perm_nodup {α : Type} : ∀ {l m : List α}, l.Nodup → m.Nodup → (∀ x, x ∈ l ↔ x ∈ m) → l.Perm m := fun h1 h2 h => (List.perm_ext_iff_of_nodup h1 h2).mpr h
theorem has_perm {ks L : List (Addr × List Key)} (g : HasG ks ks.length L) (nd : (L.map Prod.snd).Nodup) : (L.map Prod.snd).Perm (uniqK (ks.map Prod.snd)) := by
  refine perm_nodup nd (uniqK_nodup _) fun k => ?_
  rw [uniqK_mem]
  have e : ks.take ks.length = ks := List.take_length
  refine ⟨fun h => ?_, fun h => ?_⟩
  · obtain ⟨p, hp, rfl⟩ := List.mem_map.mp h
    have := g.from_ p hp
    rw [e] at this
    exact List.mem_map.mpr ⟨p, this, rfl⟩
  · obtain ⟨p, hp, rfl⟩ := List.mem_map.mp h
    exact g.all p (by rw [e]; exact hp)
theorem isort_perm {l m : List (List Key)} (p : l.Perm m) : isort ltL l = isort ltL m :=
  sorted_same (fun _ _ _ _ => ltL_tot) (isort_srtd swoL l) (isort_srtd swoL m) ((isort_stb swoL l).perm.trans (p.trans (isort_stb swoL m).perm.symm))
theorem isort_snd (L : List (Addr × List Key)) : (isort byK L).map Prod.snd = isort ltL (L.map Prod.snd) := (isort_map Prod.snd L).symm
section
variable {K : PySem.W.Frag} {H : Hp} {m : List Addr} {S : Sto}
theorem keys_rep : ∀ {ds : List D} {vs : List V} {kss : List (List Key)}, RepL K H m ds vs → mapO keysL ds = some kss → ∃ ks : List (Addr × List Key), vs = ks.map (fun p => V.ref p.1) ∧ ks.map Prod.snd = kss ∧ ∀ p ∈ ks, SqT K H p.1 (p.2.map kV)
  | _, _, _, .nil, h => by cases h; exact ⟨[], rfl, rfl, fun p h => by cases h⟩
  | d :: ds, _, _, .cons r t, h => by
    obtain ⟨k, h1, h⟩ := obind h
    obtain ⟨kss, h2, h⟩ := obind h
    cases h
    obtain ⟨ks, e1, e2, e3⟩ := keys_rep t h2
    cases d with
    | tup es =>
      cases r with
      | @tup a vs' _ hs rs =>
        refine ⟨(a, k) :: ks, by rw [e1]; rfl, by rw [← e2]; rfl, fun p hp => ?_⟩
        rcases List.mem_cons.mp hp with rfl | hp
        · rw [keysRep rs h1] at hs
          exact hs
        · exact e3 p hp
    | _ => cases h1
theorem rep_keys : ∀ k : List Key, RepL K H m (k.map dK) (k.map kV)
  | [] => .nil
  | .inl i :: k => .cons (.int i) (rep_keys k)
  | .inr x :: k => .cons (.str x) (rep_keys k)
theorem rep_sorted : ∀ {L : List (Addr × List Key)}, (∀ q ∈ L, SqT K H q.1 (q.2.map kV)) → RepL K H m (L.map fun q => .tup (q.2.map dK)) (L.map fun q => V.ref q.1)
  | [], _ => .nil
  | q :: L, h => .cons (.tup (h q List.mem_cons_self) (rep_keys _)) (rep_sorted fun p hp => h p (List.mem_cons_of_mem _ hp))
end
def kindsOf (kss : List (List Key)) : Bool := match kss with
  | [] => true
  | k :: _ => (k.map isNum).head? == some true && kss.all fun x => x.map isNum == k.map isNum
theorem kinds_mem {kss : List (List Key)} (h : kindsOf kss = true) : ∃ p, ∀ k ∈ kss, Alike (true :: p) k := by
  cases kss with
  | nil => exact ⟨[], fun x hx => by cases hx⟩
  | cons k kss =>
    unfold kindsOf at h
    rw [Bool.and_eq_true, List.all_eq_true] at h
    obtain ⟨h1, h2⟩ := h
    generalize k.map isNum = P at h1 h2
    cases P with
    | nil => cases h1
    | cons b p =>
      have hb : b = true := by simpa using h1
      subst hb
      exact ⟨p, fun x hx => (by simpa using h2 x hx : x.map isNum = true :: p)⟩
def setKeys (d : D) : Option (List (List Key)) := match d with
  | .tup ds => if ds.length < 64 then mapO keysL ds else none
  | _ => none
def mSortSet (fa : Ex) : Ex := fun ρ S => (fa ρ S).bind fun p => (setKeys p.1).bind fun kss => if kindsOf kss = true then some (.loc p.2.length, p.2 ++ [.lst ((isort ltL (uniqK kss)).map fun k => .tup (k.map dK))]) else none
def mLenSet (fa : Ex) : Ex := fun ρ S => (fa ρ S).bind fun p => (setKeys p.1).bind fun kss => some (.int (uniqK kss).length, p.2)
section
variable {X : Cx} {e : Expr} {fa : Ex} {pos : Pos} {k : Nat}
theorem set_rep {K : PySem.W.Frag} {H : Hp} {m : List Addr} {d : D} {v : V} {kss : List (List Key)} (r : Rep K H m d v) (h : setKeys d = some kss) :
    ∃ (l : Addr) (ks : List (Addr × List Key)), v = V.ref l ∧ SqT K H l (ks.map fun p => V.ref p.1) ∧ (∀ p ∈ ks, SqT K H p.1 (p.2.map kV)) ∧ ks.length < 64 ∧ ks.map Prod.snd = kss := by
  cases d with
  | tup ds =>
    simp only [setKeys] at h
    by_cases hl : ds.length < 64
    · rw [if_pos hl] at h
      cases r with
      | tup hs rs =>
        obtain ⟨ks, rfl, e2, e3⟩ := keys_rep rs h
        refine ⟨_, ks, rfl, hs, e3, ?_, e2⟩
        have := rs.length
        rw [List.length_map] at this
        omega
    · rw [if_neg hl] at h; cases h
  | _ => cases h
theorem de_sortSet {p p2 pos2 : Pos} (hr : RG k X) (hg : Gl X "sorted") (hm : X.mg "sorted" = none) (hg2 : Gl X "set") (hm2 : X.mg "set" = none) (ha : DE X e fa)
    (h1 : starEach [e] X.env = (false, eval e X.env) :: starEach [] X.env := by rfl) (h2 : starEach [.Call (.Name "set" p2) [e] [] pos2] X.env = (false, eval (.Call (.Name "set" p2) [e] [] pos2) X.env) :: starEach [] X.env := by rfl) :
    DE X (.Call (.Name "sorted" p) [.Call (.Name "set" p2) [e] [] pos2] [] pos) (mSortSet fa) := by
  have hs : PE X (.Call (.Name "set" p2) [e] [] pos2) _ := pe_callTy (call_setM hr.calm (by have := hr.hu65; omega)) hg2 hm2 (by decide +kernel) (pa_cons ha pa_nil h1) (by decide) (by decide) h1 rfl
  refine pew (pe_callB (call_sortM hr.calm) hg hm (by decide +kernel) (pa_cons hs pa_nil h2) (by decide) (by decide) h2 rfl) fun σ H Q h => ?_
  obtain ⟨ρ, S, m, d, S', E, st, hf, q⟩ := h
  obtain ⟨p1, g1, hf⟩ := obind hf
  obtain ⟨kss, g2, hf⟩ := obind hf
  by_cases hk : kindsOf kss = true
  · rw [if_pos hk] at hf
    cases hf
    obtain ⟨pt, hpt⟩ := kinds_mem hk
    refine ⟨ρ, S, m, p1.1, p1.2, E, st, g1, fun v H1 m1 x1 s1 r1 => ?_⟩
    obtain ⟨l, ks, rfl, k1, k2, k3, rfl⟩ := set_rep r1 g2
    refine ⟨l, ks, rfl, .inl k1, k2, few_len k3, fun a L hn g nd => ?_⟩
    have x2 : Ext H1 m1 (upd H1 a (SetMO X.prog X.w a L)) m1 := Ext.new1 hn
    have s2 := s1.new1 (o := SetMO X.prog X.w a L) hn
    have from_ : ∀ q ∈ L, q ∈ ks := fun q hq => List.mem_of_mem_take (g.from_ q hq)
    refine ⟨a, L, pt, rfl, upd_same, fun q hq => ⟨x2.sqT s1 (k2 q (from_ q hq)), hpt _ (List.mem_map.mpr ⟨q, from_ q hq, rfl⟩)⟩, fun dd hd => ?_⟩
    have e1 : (isort ltL (uniqK (ks.map Prod.snd))).map (fun k => D.tup (k.map dK)) = (isort byK L).map fun q => .tup (q.2.map dK) := by
      rw [← isort_perm (has_perm g nd), ← isort_snd, List.map_map]
      rfl
    have rl : RepL X.K (upd H1 a (SetMO X.prog X.w a L)) m1 ((isort byK L).map fun q => .tup (q.2.map dK)) ((isort byK L).map fun q => V.ref q.1) := rep_sorted fun q hq => x2.sqT s1 (k2 q (from_ q (isort_mem.mp hq)))
    rw [← e1] at rl
    obtain ⟨q1, q2, q3⟩ := newL s2 rl hd
    exact q _ _ _ (x1.trans (x2.trans q1)) q2 q3
  · rw [if_neg hk] at hf; cases hf
theorem de_lenSet {p p2 pos2 : Pos} (hr : RG k X) (hg : Gl X "len") (hm : X.mg "len" = none) (hg2 : Gl X "set") (hm2 : X.mg "set" = none) (ha : DE X e fa)
    (h1 : starEach [e] X.env = (false, eval e X.env) :: starEach [] X.env := by rfl) (h2 : starEach [.Call (.Name "set" p2) [e] [] pos2] X.env = (false, eval (.Call (.Name "set" p2) [e] [] pos2) X.env) :: starEach [] X.env := by rfl) :
    DE X (.Call (.Name "len" p) [.Call (.Name "set" p2) [e] [] pos2] [] pos) (mLenSet fa) := by
  have hs : PE X (.Call (.Name "set" p2) [e] [] pos2) _ := pe_callTy (call_setM hr.calm (by have := hr.hu65; omega)) hg2 hm2 (by decide +kernel) (pa_cons ha pa_nil h1) (by decide) (by decide) h1 rfl
  refine pew (pe_callB call_lenM hg hm (by decide +kernel) (pa_cons hs pa_nil h2) (by decide) (by decide) h2 rfl) fun σ H Q h => ?_
  obtain ⟨ρ, S, m, d, S', E, st, hf, q⟩ := h
  obtain ⟨p1, g1, hf⟩ := obind hf
  obtain ⟨kss, g2, hf⟩ := obind hf
  cases hf
  refine ⟨ρ, S, m, p1.1, p1.2, E, st, g1, fun v H1 m1 x1 s1 r1 => ?_⟩
  obtain ⟨l, ks, rfl, k1, k2, k3, rfl⟩ := set_rep r1 g2
  refine ⟨l, ks, rfl, .inl k1, k2, few_len k3, fun a L hn g nd => ?_⟩
  have x2 : Ext H1 m1 (upd H1 a (SetMO X.prog X.w a L)) m1 := Ext.new1 hn
  have s2 := s1.new1 (o := SetMO X.prog X.w a L) hn
  have e1 : (uniqK (ks.map Prod.snd)).length = L.length := by rw [← (has_perm g nd).length_eq, List.length_map]
  refine ⟨a, L, rfl, upd_same, fun q hq => x2.sqT s1 (k2 q (List.mem_of_mem_take (g.from_ q hq))), ?_⟩
  rw [← e1]
  exact q _ _ m1 (x1.trans x2) s2 (.int _)
end
end DD

/-! Tuples of ints and texts compared. -/
namespace DD
open PySem PySem.Spec PyProof.Rows L2 SrtO
theorem ge_strR {A : Around} {s : Shared} (x y : Str) (t u : Tok) : Ob.RcOp .GtE A s (.str x t) (.str y u) (!strLt x y) := fun prog w E Q h => PySem.P.ge_str h
theorem lexAt_ge : ∀ (k l : List Key) (e r : Nat → Bool) (i : Nat), k.length = l.length → (∀ j, e (i + j) = decide (k.getD j (.inl 0) = l.getD j (.inl 0))) → (∀ j, e (i + j) = false → r (i + j) = !ltKey (k.getD j (.inl 0)) (l.getD j (.inl 0))) →
    Ob.lexAt e r true i k.length = !ltL k l
  | [], [], _, _, _, _, _, _ => rfl
  | [], _ :: _, _, _, _, h, _, _ => by cases h
  | _ :: _, [], _, _, _, h, _, _ => by cases h
  | a :: k, b :: l, e, r, i, h, he, hr => by
    rw [List.length_cons, Ob.lexAt_succ]
    have e0 := he 0
    have r0 := hr 0
    simp only [Nat.add_zero, List.getD_cons_zero] at e0 r0
    unfold ltL
    by_cases q : a = b
    · rw [e0, decide_eq_true q, if_pos rfl, if_pos q]
      refine lexAt_ge k l e r (i + 1) (by simpa using h) (fun j => ?_) fun j => ?_
      · have := he (j + 1)
        rw [show i + (j + 1) = i + 1 + j by omega] at this
        simpa using this
      · have := hr (j + 1)
        rw [show i + (j + 1) = i + 1 + j by omega] at this
        simpa using this
    · rw [e0, decide_eq_false q, if_neg Bool.false_ne_true, if_neg q]
      rw [decide_eq_false q] at e0
      exact r0 e0
def rGeT (K : PySem.W.Frag) : R2 := fun x y H Q => ∃ (a b : Addr) (k l : List Key), x = .ref a ∧ y = .ref b ∧ SqT K H a (k.map kV) ∧ SqT K H b (l.map kV) ∧ k.map isNum = l.map isNum ∧ Q (.bl (!ltL k l)) H
theorem keyV_at : ∀ {k : List Key} {vs : List Value}, Paired KeyV k vs → ∀ (j : Nat) (h : j < vs.length), KeyV (k.getD j (.inl 0)) vs[j]
  | _, _, .nil, _, h => by cases h
  | _, _, .cons r _, 0, _ => r
  | _, _, .cons _ t, j + 1, h => keyV_at t j (Nat.lt_of_succ_lt_succ h)
theorem op_geT {X : Cx} (hu : X.A.units < cLine) : OpR X (compareOp .GtE) (rGeT X.K) := by
  intro pins s σ H x y v u Q I rx ry h
  obtain ⟨a, b, k, l, rfl, rfl, ha, hb, al, q⟩ := h
  cases rx
  cases ry
  obtain ⟨its, r1, p1, _⟩ := I.tuple ha
  obtain ⟨its2, r2, p2, _⟩ := I.tuple hb
  have k1 := keysV_of r1
  have k2 := keysV_of r2
  have n1 : its.toArray.size = k.length := by rw [List.size_toArray]; exact (Paired.length k1).symm
  have n2 : its2.toArray.size = l.length := by rw [List.size_toArray]; exact (Paired.length k2).symm
  have nn : k.length = l.length := by simpa using congrArg List.length al
  have kind : ∀ j, j < k.length → isNum (k.getD j (.inl 0)) = isNum (l.getD j (.inl 0)) := fun j hj => by
    have e : (k.map isNum)[j]? = (l.map isNum)[j]? := by rw [al]
    rw [List.getElem?_map, List.getElem?_map, List.getElem?_eq_getElem hj, List.getElem?_eq_getElem (nn ▸ hj)] at e
    have e' := Option.some.inj e
    rw [List.getD_eq_getElem?_getD, List.getD_eq_getElem?_getD, List.getElem?_eq_getElem hj, List.getElem?_eq_getElem (nn ▸ hj)]
    exact e'
  have R := Ob.RcOp.tuples_ge (A := X.A) (s := s) (e := fun j => decide (k.getD j (.inl 0) = l.getD j (.inl 0))) (r := fun j => !ltKey (k.getD j (.inl 0)) (l.getD j (.inl 0))) p1 p2 hu (fun j h1 h2 => by
    have z1 := keyV_at k1 j (by simpa using h1)
    have z2 := keyV_at k2 j (by simpa using h2)
    have z3 := kind j (by rw [← n1]; exact h1)
    generalize k.getD j (.inl 0) = x at z1 z3 ⊢
    generalize l.getD j (.inl 0) = y at z2 z3 ⊢
    cases x with
    | inl i =>
      cases y with
      | inr z => cases z3
      | inl i' =>
        obtain ⟨t, e1⟩ := z1
        obtain ⟨t', e2⟩ := z2
        have g1 : its.toArray[j] = .int i t := by simpa using e1
        have g2 : its2.toArray[j] = .int i' t' := by simpa using e2
        rw [g1, g2, show decide ((Sum.inl i : Key) = Sum.inl i') = (i == i') by by_cases q : i = i' <;> simp [q]]
        exact SeqAt.EqAt.int_int _ _ _ _
    | inr i =>
      cases y with
      | inl z => cases z3
      | inr i' =>
        obtain ⟨t, e1⟩ := z1
        obtain ⟨t', e2⟩ := z2
        have g1 : its.toArray[j] = .str i t := by simpa using e1
        have g2 : its2.toArray[j] = .str i' t' := by simpa using e2
        rw [g1, g2, show decide ((Sum.inr i : Key) = Sum.inr i') = (i == i') by by_cases q : i = i' <;> simp [q]]
        exact SeqAt.EqAt.str_str _ _ _ _) (fun j h1 h2 _ => by
    have z1 := keyV_at k1 j (by simpa using h1)
    have z2 := keyV_at k2 j (by simpa using h2)
    have z3 := kind j (by rw [← n1]; exact h1)
    generalize k.getD j (.inl 0) = x at z1 z3 ⊢
    generalize l.getD j (.inl 0) = y at z2 z3 ⊢
    cases x with
    | inl i =>
      cases y with
      | inr z => cases z3
      | inl i' =>
        obtain ⟨t, e1⟩ := z1
        obtain ⟨t', e2⟩ := z2
        have g1 : its.toArray[j] = .int i t := by simpa using e1
        have g2 : its2.toArray[j] = .int i' t' := by simpa using e2
        rw [g1, g2, show (!ltKey (.inl i) (.inl i')) = decide (i' ≤ i) by show (!decide (i < i')) = _; by_cases q : i < i' <;> simp [q] <;> omega]
        exact Ob.RcOp.ge_int _ _ _ _
    | inr i =>
      cases y with
      | inl z => cases z3
      | inr i' =>
        obtain ⟨t, e1⟩ := z1
        obtain ⟨t', e2⟩ := z2
        have g1 : its.toArray[j] = .str i t := by simpa using e1
        have g2 : its2.toArray[j] = .str i' t' := by simpa using e2
        rw [g1, g2]
        exact ge_strR _ _ _ _)
  rw [n1, n2, nn, Nat.min_self, show decide (l.length ≥ l.length) = true by simp, ← nn, lexAt_ge k l _ _ 0 nn (fun j => by rw [Nat.zero_add]) (fun j _ => by rw [Nat.zero_add])] at R
  exact R X.prog X.w X.xe (EP X pins σ Q) ⟨.bl _, H, I, rfl, q⟩
/-- >= of two ints, or of two tuples alike in kind -/
def geA : Op2 := fun d e S => match d, e with
  | .int i, .int j => some (.bl (decide (j ≤ i)), S)
  | d, e => (keysL d).bind fun k => (keysL e).bind fun l => if k.map isNum = l.map isNum then some (.bl (!ltL k l), S) else none
section
variable {X : Cx} {a b : Expr} {fa fb : Ex} {pos : Pos} {k : Nat}
theorem keysL_rep {K : PySem.W.Frag} {H : Hp} {m : List Addr} {d : D} {v : V} {k : List Key} (r : Rep K H m d v) (h : keysL d = some k) : ∃ a, v = .ref a ∧ SqT K H a (k.map kV) := by
  cases d with
  | tup ds => cases r with | tup hs rs => exact ⟨_, rfl, by rw [← keysRep rs h]; exact hs⟩
  | _ => cases h
theorem od_geA {K : PySem.W.Frag} : OpD K (fun x y H Q => rI0 (fun i j => .bl (decide (j ≤ i))) x y H Q ∨ rGeT K x y H Q) geA := by
  intro H m S x y d e d' S' Q s rx ry h q
  have tup : ((keysL d).bind fun k => (keysL e).bind fun l => if k.map isNum = l.map isNum then some (D.bl (!ltL k l), S) else none) = some (d', S') → rGeT K x y H Q := fun h => by
    obtain ⟨k, h1, h⟩ := obind h
    obtain ⟨l, h2, h⟩ := obind h
    by_cases al : k.map isNum = l.map isNum
    · rw [if_pos al] at h
      cases h
      obtain ⟨a, rfl, g1⟩ := keysL_rep rx h1
      obtain ⟨b, rfl, g2⟩ := keysL_rep ry h2
      exact ⟨a, b, k, l, rfl, rfl, g1, g2, al, q _ H m (Ext.refl H m) s (.bl _)⟩
    · rw [if_neg al] at h; cases h
  cases d with
  | int i =>
    cases e with
    | int j => cases h; cases rx; cases ry; exact .inl ⟨i, j, rfl, rfl, q _ H m (Ext.refl H m) s (.bl _)⟩
    | _ => exact .inr (tup h)
  | _ => exact .inr (tup (by cases e <;> exact h))
theorem de_geA (hr : RG k X) (ha : DE X a fa) (hb : DE X b fb) : DE X (.Compare a [.GtE] [b] pos) (m2 geA fa fb) := de_cmp (op_ge.or (op_geT (by have := hr.hu1; omega))) od_geA ha hb (nomark _)
theorem dt_geA (hr : RG k X) (ha : DE X a fa) (hb : DE X b fb) : DT X (.Compare a [.GtE] [b] pos) (mB (m2 geA fa fb)) := dt_cmp (op_ge.or (op_geT (by have := hr.hu1; omega))) od_geA ha hb (nomark _)
end
end DD

/-! tuple * int. -/
namespace DD
open PySem PySem.Spec PyProof.Rows L2
theorem tuple_mul_self (l : Addr) (items : Array Value) (n : Nat) (dd : Option Addr) (sl : Array (Option Value)) (x : Int) (u : Tok) (c0 : (decide (x < -(2 ^ 63)) || decide (x ≥ 2 ^ 63)) = false) (c1 : (items.isEmpty || x == 1) = true) :
    Meets (Builtin.«tuple.__mul__» ⟨[.ref l, .int x u], []⟩) (fun _ R s => s.heap.get? l = some { cls := .type "tuple", dict := dd, data := .seq items n, slots := sl } ∧ R (.ok (.ret (.ref l))) s) :=
  .of_wp fun prog w A R s h => by
    obtain ⟨hp, g, d, tk, os⟩ := s
    obtain ⟨hl, h⟩ := h
    have f1 := AutoSeq1.idx_int
    wp_walk using wpAny_loadPart' hl
    refine wpAny_ite_false (decide_eq_false (by rw [c0]; exact Bool.false_ne_true)) ?_
    wp_walk using wpAny_loadPart' hl
    exact ⟨_, rfl, h⟩
def rRepS (K : PySem.W.Frag) : R2 := fun x y H Q => ∃ l k xs, x = .ref l ∧ y = .int k ∧ SqT K H l xs ∧ (xs = [] ∨ k = 1) ∧ -1000 ≤ k ∧ k ≤ 1000 ∧ Q (.ref l) H
section
variable {X : Cx}
theorem op_repS : OpR X (binaryOp .Mult) (rRepS X.K) := by
  intro pins s σ H x y v u Q I rx ry h
  obtain ⟨l, k, xs, rfl, rfl, hT, hor, k0, k1, q⟩ := h
  cases rx
  obtain ⟨t, rfl⟩ := ry
  obtain ⟨its, r, ⟨⟨cls, dd, data, sl⟩, ho, hc, n, hd⟩, hs⟩ := I.tuple hT
  simp only at hc hd
  subst hc hd
  have c0 : (decide (k < -(2 ^ 63)) || decide (k ≥ 2 ^ 63)) = false := by
    rw [decide_eq_false (by omega), decide_eq_false (by omega)]
    rfl
  have c1 : (its.toArray.isEmpty || k == 1) = true := by
    rcases hor with e | e
    · subst e
      cases r
      rfl
    · rw [e]
      simp
  exact wpAny_binaryOp_repeat_ref (T := "tuple") (U := "int") (by decide) ⟨_, ho, rfl⟩ (fun s' => typeIs_int s' k t) noFill_tuple_mul F.fills_int_mul F.slot_int_rmul repeat_tuple F.slot_int_index.lookup
    (call_meets F.slot_int_rmul (typeIs_int s k t) F.entry_int_rmul (F.args_int_rmul_2 _ _) (int_rmul_tuple k t l its.toArray n dd sl)
      ⟨ho, rfl, ⟨_, ho, rfl⟩, call_meets F.slot_tuple_mul ⟨_, ho, rfl⟩ F.entry_tuple_mul (F.args_tuple_mul_2 _ _) (tuple_mul_self l its.toArray n dd sl k t c0 c1) ⟨ho, ⟨.ref l, H, I, rfl, q⟩⟩⟩)
end
/-- two ints, or a tuple and a small int -/
def mulA : Op2 := fun d e S => match d, e with
  | .int i, .int j => mulD (.int i) (.int j) S
  | .tup ds, .int k => if 1 ≤ k ∧ k ≤ 1000 ∧ ds.length ≤ 1000 then some (.tup (List.replicate k.toNat ds).flatten, S) else none
  | _, _ => none
theorem rep_flat {K : PySem.W.Frag} {H : Hp} {m : List Addr} {ds : List D} {vs : List V} (r : RepL K H m ds vs) : ∀ n : Nat, RepL K H m (List.replicate n ds).flatten (List.replicate n vs).flatten
  | 0 => .nil
  | n + 1 => by
    rw [List.replicate_succ, List.replicate_succ, List.flatten_cons, List.flatten_cons]
    exact r.app (rep_flat r n)
theorem flat_nil {α : Type} : ∀ n : Nat, (List.replicate n ([] : List α)).flatten = []
  | 0 => rfl
  | n + 1 => by rw [List.replicate_succ, List.flatten_cons, flat_nil n]; rfl
theorem od_mulA {K : PySem.W.Frag} : OpD K (fun x y H Q => rI CMul (fun i j => .int (i * j)) x y H Q ∨ rRepS K x y H Q ∨ rRepT K x y H Q) mulA := by
  intro H m S x y d e d' S' Q s rx ry h q
  match d, e, h with
  | .int i, .int j, h => exact .inl (od_int (C := fun i j => (-(2 ^ 64) < i ∧ i < 2 ^ 64) ∨ (-(2 ^ 64) < j ∧ j < 2 ^ 64)) (C' := CMul) (g := fun i j => .int (i * j)) (g' := fun i j => .int (i * j)) (fun _ _ h => h) (fun _ _ _ _ => .int _) H m S x y (.int i) (.int j) d' S' Q s rx ry h q)
  | .tup ds, .int k, h =>
    cases ry
    by_cases hz : 1 ≤ k ∧ k ≤ 1000 ∧ ds.length ≤ 1000
    · simp only [mulA, if_pos hz] at h
      cases h
      cases rx with
      | @tup a vs _ hs rs =>
        have ll := rs.length
        by_cases e1 : k = 1
        · refine .inr (.inl ⟨a, k, vs, rfl, rfl, hs, .inr e1, by omega, by omega, q _ H m (Ext.refl H m) s ?_⟩)
          rw [e1, show ((1 : Int).toNat) = 1 from rfl, List.replicate_one, List.flatten_cons, List.flatten_nil, List.append_nil]
          exact .tup hs rs
        · by_cases e0 : vs = []
          · refine .inr (.inl ⟨a, k, vs, rfl, rfl, hs, .inl e0, by omega, by omega, q _ H m (Ext.refl H m) s ?_⟩)
            subst e0
            have ed : ds = [] := List.eq_nil_of_length_eq_zero ll
            subst ed
            rw [flat_nil]
            exact .tup hs rs
          · refine .inr (.inr ⟨a, k, vs, rfl, rfl, hs, e0, by omega, by omega, by omega, fun p hp => q _ _ m (Ext.new1 hp) (s.new1 hp) (.tup (SqT.of upd_same) ((rep_flat rs _).mono s (Ext.new1 hp)))⟩)
    · simp only [mulA, if_neg hz] at h; cases h
section
variable {X : Cx} {a b : Expr} {fa fb : Ex} {pos : Pos}
theorem de_mulA (ha : DE X a fa) (hb : DE X b fb) : DE X (.BinOp a .Mult b pos) (m2 mulA fa fb) := de_op (op_mul.or (op_repS.or op_repT)) od_mulA ha hb
end
/-! ### one sign in a text -/
def inCD (neg : Bool) : Op2 := fun d e S => match d, e with
  | .str x, .str z => match x.cps.toList with
    | [c] => some (.bl (if neg = true then !decide (c ∈ z.cps.toList) else decide (c ∈ z.cps.toList)), S)
    | _ => none
  | _, _ => none
theorem one_sign {x : Str} {c : Nat} (h : x.cps.toList = [c]) : x = ⟨#[c]⟩ := by
  obtain ⟨cs⟩ := x
  have e : cs = #[c] := by rw [← Array.toList_inj]; exact h
  rw [e]
theorem od_inC {K : PySem.W.Frag} {neg : Bool} : OpD K (fun x y H Q => ∃ (c : Nat) (z : Str), x = .str ⟨#[c]⟩ ∧ y = .str z ∧ Q (.bl (if neg = true then !decide (c ∈ z.cps.toList) else decide (c ∈ z.cps.toList))) H) (inCD neg) := by
  intro H m S x y d e d' S' Q s rx ry h k
  match d, e, h with
  | .str x, .str z, h =>
    cases rx
    cases ry
    simp only [inCD] at h
    split at h
    · rename_i c hc
      cases h
      exact ⟨c, z, by rw [one_sign hc], rfl, k _ H m (Ext.refl H m) s (.bl _)⟩
    · cases h
section
variable {X : Cx} {a b : Expr} {fa fb : Ex} {pos : Pos}
theorem de_inC (ha : DE X a fa) (hb : DE X b fb) (hm : behindInMarks .In b = false := by rfl) : DE X (.Compare a [.In] [b] pos) (m2 (inCD false) fa fb) := de_cmp op_in_sign od_inC ha hb hm
theorem dt_inC (ha : DE X a fa) (hb : DE X b fb) (hm : behindInMarks .In b = false := by rfl) : DT X (.Compare a [.In] [b] pos) (mB (m2 (inCD false) fa fb)) := dt_cmp op_in_sign od_inC ha hb hm
theorem de_notInC (ha : DE X a fa) (hb : DE X b fb) (hm : behindInMarks .NotIn b = false := by rfl) : DE X (.Compare a [.NotIn] [b] pos) (m2 (inCD true) fa fb) := de_cmp op_notIn_sign od_inC ha hb hm
theorem dt_notInC (ha : DE X a fa) (hb : DE X b fb) (hm : behindInMarks .NotIn b = false := by rfl) : DT X (.Compare a [.NotIn] [b] pos) (mB (m2 (inCD true) fa fb)) := dt_cmp op_notIn_sign od_inC ha hb hm
end
end DD

/-! repr of all data, and of the empty dict. -/
namespace DD
open PySem PySem.Spec PyProof.Rows L2
section
variable {X : Cx} {e : Expr} {ga : As} {pos : Pos} {k : Nat}
def isEmptyD (S : Sto) : D → Bool
  | .loc n => match S[n]? with
    | some (.dic []) => true
    | _ => false
  | _ => false
def reprA : Op1 := fun d S => if isEmptyD S d = true then some (.str (PyData.dict []).shown, S) else (toPy 64 S d).bind fun p => if PyData.showable p = true ∧ p.shown.length ≤ sizeLine ∧ p.depth ≤ 64 then some (.str p.shown, S) else none
def rReprA (K : PySem.W.Frag) : List V → Hp → VK → Prop := fun xs H Q => (∃ x p, xs = [x] ∧ Dp K H x p ∧ PyData.showable p = true ∧ p.shown.length ≤ sizeLine ∧ p.depth ≤ 64 ∧ Q (.str p.shown) H) ∨ ∃ a, xs = [.ref a] ∧ H a = some (.dK []) ∧ Q (.str (PyData.dict []).shown) H
theorem call_reprA (hr : RG k X) : CallR X (.builtin "repr") (rReprA X.K) := by
  intro pins s σ H xs us Q I r h
  rcases h with ⟨x, p, rfl, hd, h1, h2, h3, q⟩ | ⟨a, rfl, ha, q⟩
  · cases p with
    | list qs => exact call_repr hr pins s σ H _ us Q I r ⟨x, _, rfl, hd, ⟨qs, .inl rfl⟩, h1, h2, h3, q⟩
    | tuple qs => exact call_repr hr pins s σ H _ us Q I r ⟨x, _, rfl, hd, ⟨qs, .inr rfl⟩, h1, h2, h3, q⟩
    | dict _ => cases hd
    | none =>
      cases hd
      obtain ⟨u, rfl, ru⟩ := vals1 r
      obtain rfl : u = Value.none := ru
      exact PySem.P.repr_of_none ⟨.str _, H, I.tok _, ⟨_, rfl⟩, q⟩
    | bool b =>
      cases hd
      obtain ⟨u, rfl, ru⟩ := vals1 r
      obtain rfl : u = Value.bool b := ru
      refine PySem.P.repr_of_bool ⟨.str _, H, I.tok _, ⟨_, rfl⟩, ?_⟩
      cases b <;> exact q
    | int i =>
      cases hd
      obtain ⟨u, rfl, t, rfl⟩ := vals1 r
      exact PySem.P.repr_of_int (by simpa only [PyData.showable, decide_eq_true_eq] using h1) ⟨.str _, H, I.tok _, ⟨_, rfl⟩, q⟩
    | str z =>
      cases hd
      obtain ⟨u, rfl, t, rfl⟩ := vals1 r
      exact PySem.P.repr_of_str ⟨.str _, H, I.tok _, ⟨_, rfl⟩, q⟩ h2
  · obtain ⟨u, rfl, ru⟩ := vals1 r
    obtain rfl : u = Value.ref a := ru
    obtain ⟨_, hsys, vs, kv, hd⟩ := (show ObjOk X.prog X.w H s.heap a (.dK []) from I.hok a _ ha)
    cases kv
    have hu := hr.room.un
    obtain ⟨o, es, ep, ho, hex, hdat, _, hp, _⟩ := hd
    have e0 : es.toList = [] := by
      generalize es.toList = l at hp
      cases hp
      rfl
    have rd : Reads s.heap (.ref a) (.dict []) (a :: [] ++ []) := .dict ho hex.1 hdat (by rw [e0]; exact .nil) (by rw [e0]; exact .nil)
    refine repr_of_reads' rd (by simp only [PyData.showable, PyData.showableKv]) (fun _ => ?_) hr.gd (by simp only [PyData.depth, PyData.depthKv]; omega) (fun _ _ e => e) (fun h' u tk hk => ⟨.str _, H, I.kept (t' := tk) hk, ⟨u, rfl⟩, q⟩) (by decide +kernel)
    intro hm
    have : sysModules = a := by simpa using hm
    rw [this] at hsys
    simp at hsys
theorem o1_reprA {K : PySem.W.Frag} : Op1D K (rReprA K) reprA := by
  intro H m S x d d' S' Q s r h q
  by_cases he : isEmptyD S d = true
  · simp only [reprA, if_pos he] at h
    cases h
    cases d with
    | loc n =>
      simp only [isEmptyD] at he
      cases hn : S[n]? with
      | none => rw [hn] at he; cases he
      | some cl =>
        rw [hn] at he
        cases cl with
        | lst _ => cases he
        | dic kvs =>
          cases kvs with
          | cons _ _ => cases he
          | nil =>
            obtain ⟨a', vs, rfl, hm, e1, rs⟩ := s.dic r hn
            cases rs
            exact .inr ⟨a', rfl, e1, q _ H m (Ext.refl H m) s (.str _)⟩
    | _ => cases he
  · simp only [reprA, if_neg he] at h
    obtain ⟨p, h1, h⟩ := obind h
    by_cases hc : PyData.showable p = true ∧ p.shown.length ≤ sizeLine ∧ p.depth ≤ 64
    · rw [if_pos hc] at h
      cases h
      exact .inl ⟨x, p, rfl, toPy_dp s _ _ _ _ r h1, hc.1, hc.2.1, hc.2.2, q _ H m (Ext.refl H m) s (.str _)⟩
    · rw [if_neg hc] at h; cases h
theorem de_reprA {p : Pos} (hr : RG k X) (hg : Gl X "repr") (hm : X.mg "repr" = none) (ha : DA X [e] ga) (he : starEach [e] X.env = (false, eval e X.env) :: starEach [] X.env := by rfl) : DE X (.Call (.Name "repr" p) [e] [] pos) (m1 reprA ga) :=
  de_b1 (call_reprA hr) o1_reprA hg hm (by decide +kernel) ha (by decide) (by decide) he
end
end DD

/-! t[::-1] of a tuple. -/
namespace DD
open PySem PySem.Spec PyProof.Rows L2
theorem adj_rev (n : Nat) : Builtin.Slice.sliceAdjust none none (-1) (n : Int) = ((n : Int) - 1, -1) := by
  unfold Builtin.Slice.sliceAdjust
  simp
theorem places_rev (n : Nat) : Builtin.Slice.slicePlaces ((n : Int) - 1) (-1) (-1) = n := by
  unfold Builtin.Slice.slicePlaces
  simp
  by_cases h : -1 < (n : Int) - 1
  · rw [if_pos h]; omega
  · rw [if_neg h]; omega
theorem pick_same {α : Type} {f g : Nat → Option α} : ∀ {l : List Nat}, (∀ m ∈ l, f m = g m) → l.filterMap f = l.filterMap g
  | [], _ => rfl
  | m :: l, h => by
    rw [List.filterMap_cons, List.filterMap_cons, h m List.mem_cons_self, pick_same fun m q => h m (List.mem_cons_of_mem _ q)]
theorem pick_rev (xs : Array Value) : ((List.range xs.size).filterMap fun (m : Nat) => xs[(((xs.size : Int) - 1) + (m : Int) * (-1)).toNat]?).toArray = xs.toList.reverse.toArray := by
  have e : (List.range xs.size).filterMap (fun (m : Nat) => xs[(((xs.size : Int) - 1) + (m : Int) * (-1)).toNat]?) = (List.range xs.size).filterMap fun m => xs.toList.reverse[m]? := by
    refine pick_same fun m hm => ?_
    have h := List.mem_range.mp hm
    rw [show (((xs.size : Int) - 1) + (m : Int) * (-1)).toNat = xs.size - 1 - m by omega, List.getElem?_reverse (by simpa using h), Array.length_toList, Array.getElem?_toList]
  have z := range_pick xs.toList.reverse
  rw [List.length_reverse, Array.length_toList] at z
  rw [e, z]
section
variable {prog : Program} {w : World} {A : Around} {E : Value → Shared → Prop} {s : Shared}
theorem applied_rev {sl : Addr} {vl vu vs : Value} {n : Nat} {Q : Int × Int × Nat → Shared → Prop} (hs : s.heap.IsSliceOf sl vl vu vs) (pl : IsPart vl none) (pu : IsPart vu none) (ps : IsPart vs (some (-1))) (h : Q ((n : Int) - 1, -1, n) s) :
    wpAny (model prog w) A (Builtin.Slice.sliceApplied (.ref sl) (pure (n : Int))) Q E s := by
  obtain ⟨os, hos, hcs, hds⟩ := id hs
  unfold Builtin.Slice.sliceApplied Builtin.Slice.sliceFields
  refine wpAny_bind (wpAny_bind (wpAny_field hos hds (x := vl) rfl (wpAny_bind (wpAny_field hos hds (x := vu) rfl (wpAny_bind (wpAny_field hos hds (x := vs) rfl (wpAny_pure ?_)))))))
  refine wpAny_bind (HT.slicePart_ ps ?_)
  show wpAny _ _ (if ((-1 : Int) == 0) = true then _ else _) _ _ s
  rw [if_neg (by decide)]
  refine wpAny_bind (HT.slicePart_ pl (wpAny_bind (HT.slicePart_ pu (wpAny_bind (wpAny_pure ?_)))))
  show wpAny _ _ (match Builtin.Slice.sliceAdjust none none (-1) (n : Int) with | (lo, hi) => pure (lo, (-1 : Int), Builtin.Slice.slicePlaces lo hi (-1))) _ _ s
  rw [adj_rev]
  show wpAny _ _ (pure ((n : Int) - 1, (-1 : Int), Builtin.Slice.slicePlaces ((n : Int) - 1) (-1) (-1))) _ _ s
  rw [places_rev]
  exact wpAny_pure h
theorem item_rev {t sl : Addr} {items : Array Value} {vl vu vs : Value} {Q : Value → Shared → Prop} (ht : IsTup s.heap t items) (hs : s.heap.IsSliceOf sl vl vu vs) (pl : IsPart vl none) (pu : IsPart vu none) (ps : IsPart vs (some (-1)))
    (h : Q (.ref s.heap.objs.size) { s with heap := s.heap.push { cls := .type "tuple", data := .seq items.toList.reverse.toArray } }) (hsz : items.size ≤ sizeLine) : wpAny (model prog w) A (getItem (.ref t) (.ref sl)) Q E s := by
  have room : sizeOk (.seq items.toList.reverse.toArray) := by
    show items.toList.reverse.toArray.size ≤ sizeLine
    rw [List.size_toArray, List.length_reverse, Array.length_toList]
    exact hsz
  obtain ⟨os, hos, hcs, hds⟩ := id hs
  have hTs : s.TypeIs (.ref sl) "slice" := ⟨os, hos, hcs⟩
  unfold getItem
  try with_reducible refine wpAny_holding ?_
  first | refine wpAny_bind (wpAny_pure ?_) | skip
  refine wpAny_bind (wpAny_sequenceKey ht.typeIs (by decide) ?_)
  refine wpAny_bind (wpAny_callSpecial?_slot (name := Str.ofString "__getitem__") ht.typeIs PyProof.Rows.slot_tuple_getitem (wpAny_call_entry PyProof.Rows.slot_tuple_getitem ht.typeIs entry_tuple_getitem ?_ (args_tuple_getitem _ _)))
  show wpAny _ _ (Builtin.Tuple.tupleItemsOf (.ref t) >>= _) _ _ s
  refine wpAny_bind (PyProof.Rows.tupleItemsOf_ ht ?_)
  refine wpAny_bind (wpAny_typeOf hTs ?_)
  rw [if_pos (by decide)]
  refine wpAny_bind (applied_rev hs pl pu ps ?_)
  have no : ¬ ((((items.size : Int) - 1) == 0 && (-1 : Int) == 1 && items.size == items.size) = true) := by simp
  show wpAny _ _ (if (((items.size : Int) - 1) == 0 && (-1 : Int) == 1 && items.size == items.size) = true then _ else _) _ _ s
  rw [if_neg no, pick_rev]
  first
    | exact wpAny_bind (m := Builtin.Tuple.tupleExact _) (wpAny_newObj_type (wpAny_pure ⟨_, rfl, wpAny_pure h⟩) room)
    | exact wpAny_bind (m := Builtin.Tuple.tupleExact _) (wpAny_newObj_type (wpAny_bind (wpAny_pure (wpAny_pure ⟨_, rfl, wpAny_pure h⟩))) room)
    | exact wpAny_bind (wpAny_bind (m := Builtin.Tuple.tupleExact _) (wpAny_newObj_type (wpAny_pure (wpAny_pure ⟨_, rfl, wpAny_pure h⟩)) room))
    | exact wpAny_bind (wpAny_bind (m := Builtin.Tuple.tupleExact _) (wpAny_newObj_type (wpAny_pure ⟨_, rfl, wpAny_pure h⟩) room))
end
section
variable {X : Cx} {e : Expr} {te : TE} {fa : Ex} {pos : Pos}
/-- xs[::-1] of a list or a tuple -/
def tRevS (K : PySem.W.Frag) (te : TE) : TE := fun σ H Q => te σ H fun x H1 => ∃ a xs, x = .ref a ∧ SqT K H1 a xs ∧ xs.length ≤ sizeLine ∧ ∀ p, H1 p = none → Q (.ref p) (upd H1 p (.tup xs.reverse))
theorem pe_revT {k : Nat} {p1 p2 p3 : Pos} (he : PE X e te) : PE X (.Subscript e (.Slice none none (some (.UnaryOp .USub (.Constant (.int 1) k p1) p2)) p3) pos) (tRevS X.K te) := by
  refine ⟨fun pins s σ H Q I h => Subscript_ (thn (he.run pins s σ H _ I h) fun v s1 ⟨x, H1, I1, r1, a, xs, ex, hx, hz, q⟩ => ?_)⟩
  subst ex
  cases r1
  have step : PO X (some (.UnaryOp .USub (.Constant (.int 1) k p1) p2)) (tPart (tUn (rU fun i => .int (-i)) (tC (.int 1)))) := po_some (pe_un un_neg pe_int)
  refine wpAny_Slice (thn (po_none.run pins s1 σ H1 (fun o H2 => o = none ∧ H2 = H1) I1 ⟨rfl, rfl⟩) fun vl s2 ⟨l, H2, I2, pl, el, e2⟩ => ?_)
  subst el e2
  refine thn (po_none.run pins s2 σ H2 (fun o H3 => o = none ∧ H3 = H2) I2 ⟨rfl, rfl⟩) fun vu s3 ⟨u, H3, I3, pu, eu, e3⟩ => ?_
  subst eu e3
  refine thn (step.run pins s3 σ H3 (fun o H4 => o = some (-1) ∧ H4 = H3) I3 ⟨1, rfl, -1, rfl, rfl, rfl⟩) fun vs s4 ⟨o, H4, I4, ps, eo, e4⟩ => ?_
  subst eo e4
  have I5 : Inv X pins σ H4 { s4 with heap := s4.heap.push { cls := .type "slice", data := .fields #[vl, vu, vs] } } := I4.kept (t' := s4.toks) fun b ob q => Heap.get?_push_of_some _ q
  obtain ⟨its, r, ht, _⟩ := I5.tuple hx
  have ln := r.length
  show wpAny (model X.prog X.w) X.A (subscriptTail e (.Slice none none (some (.UnaryOp .USub (.Constant (.int 1) k p1) p2)) p3) (.ref a) (.ref s4.heap.objs.size)) (EP X pins σ Q) X.xe { s4 with heap := s4.heap.push { cls := .type "slice", data := .fields #[vl, vu, vs] } }
  refine tail_any (ops := [.ref a, .ref s4.heap.objs.size]) ht.typeIs PyProof.Rows.slot_tuple_getitem.lookup ?_ (by with_unfolding_all rfl)
  refine item_rev ht (Heap.IsSliceOf.new _ vl vu vs) pl pu ps ?_ (by rw [List.size_toArray]; omega)
  refine ⟨.ref _, _, I5.laid (t' := s4.toks) (o := .tup xs.reverse) (fun b ob q => Heap.get?_push_of_some _ q) (Nat.le_refl _) ?_, rfl, q _ (I5.hok.fresh (Nat.le_refl _))⟩
  exact ⟨by rw [List.length_reverse]; exact hz, _, r.reverse, IsTup.new _ _⟩
def mRevA (fa : Ex) : Ex := fun ρ S => (fa ρ S).bind fun p => match p.1 with
  | .tup ds => if ds.length ≤ sizeLine then some (.tup ds.reverse, p.2) else none
  | d => (lstOf p.2 d).bind fun ds => some (.loc p.2.length, p.2 ++ [.lst ds.reverse])
theorem PEor {t t' : TE} (h : PE X e t) (h' : PE X e t') : PE X e (fun σ H Q => t σ H Q ∨ t' σ H Q) := ⟨fun pins s σ H Q I q => q.elim (h.run pins s σ H Q I) (h'.run pins s σ H Q I)⟩
theorem de_revA {k : Nat} {p1 p2 p3 : Pos} (ha : DE X e fa) : DE X (.Subscript e (.Slice none none (some (.UnaryOp .USub (.Constant (.int 1) k p1) p2)) p3) pos) (mRevA fa) := pew (PEor (pe_revL ha) (pe_revT ha)) fun σ H Q h => by
  obtain ⟨ρ, S, m, d, S', E, st, hf, q⟩ := h
  obtain ⟨p, h1, hf⟩ := obind hf
  by_cases ht : ∃ es, p.1 = .tup es
  · obtain ⟨es, hp⟩ := ht
    rw [hp] at hf
    by_cases hz : es.length ≤ sizeLine
    · simp only [if_pos hz] at hf
      cases hf
      refine .inr ⟨ρ, S, m, p.1, p.2, E, st, h1, fun v H1 m1 x1 s1 r1 => ?_⟩
      rw [hp] at r1
      cases r1 with
      | tup hs rs => exact ⟨_, _, rfl, hs, by rw [← rs.length]; exact hz, fun l hl => q _ _ m1 (x1.trans (Ext.new1 hl)) (s1.new1 hl) (.tup (SqT.of upd_same) (rs.reverse.mono s1 (Ext.new1 hl)))⟩
    · simp only [if_neg hz] at hf; cases hf
  · have hf' : ((lstOf p.2 p.1).bind fun ds => some (D.loc p.2.length, p.2 ++ [.lst ds.reverse])) = some (d, S') := by
      cases hp : p.1 with
      | tup es => exact absurd ⟨es, hp⟩ ht
      | _ => rw [hp] at hf; exact hf
    obtain ⟨ds, h2, hf'⟩ := obind hf'
    cases hf'
    refine .inl ⟨ρ, S, m, p.1, p.2, E, st, h1, fun v H1 m1 x1 s1 r1 => ?_⟩
    obtain ⟨a', vs, rfl, hs, rs⟩ := lstOf_rep s1 r1 h2
    refine ⟨a', vs, rfl, hs, fun l hl => ?_⟩
    obtain ⟨q1, q2, q3⟩ := newL s1 rs.reverse hl
    exact q _ _ _ (x1.trans q1) q2 q3
end
end DD

/-! Dicts of a module that stay: text keys, x in T and T[x]. -/
namespace DD
open PySem PySem.Spec PyProof.Rows L2
def tabGet : List (Str × D) → Str → Option D
  | [], _ => none
  | (k, d) :: r, z => if k = z then some d else tabGet r z
structure KTab (K : PySem.W.Frag) (w : World) (mg : Str → Option Value) (x : Str) (tab : List (Str × D)) : Prop where
  ex : ∃ a es n, mg x = some (.ref a) ∧ KDict K w a es n ∧ (∀ z, tabGet tab z = none → PySem.W.nsIn K a z = some none) ∧ ∀ z d, tabGet tab z = some d → ∃ u v, PySem.W.nsIn K a z = some (some u) ∧ RelV v u ∧ ∀ (H : Hp) (m : List Addr), Rep K H m d v
def mInTab (tab : List (Str × D)) (fa : Ex) : Ex := fun ρ S => (fa ρ S).bind fun p => match p.1 with | .str z => some (.bl (tabGet tab z).isSome, p.2) | _ => none
def mIxTab (tab : List (Str × D)) (fa : Ex) : Ex := fun ρ S => (fa ρ S).bind fun p => match p.1 with | .str z => (tabGet tab z).bind fun d => some (d, p.2) | _ => none
section
variable {X : Cx} {e : Expr} {fa : Ex} {pos p : Pos} {x : Str} {tab : List (Str × D)}
theorem in_use {σ : L2.St} {H : Hp} {Q : VK} {a : Addr} {es : Array DictEntry} {n : Nat} {K : PySem.W.Frag} (h1 : ∀ z, tabGet tab z = none → PySem.W.nsIn K a z = some none) (h2 : ∀ z d, tabGet tab z = some d → ∃ u v, PySem.W.nsIn K a z = some (some u) ∧ RelV v u ∧ ∀ (H : Hp) (m : List Addr), Rep K H m d v)
    (h : tE K (mInTab tab fa) σ H Q) : tOp (fun x y H Q => ∃ (z : Str) (r : Option Value), x = .str z ∧ y = .ref a ∧ PySem.W.nsIn K a z = some r ∧ Q (.bl r.isSome) H) (tE K fa) (tC (.ref a)) σ H Q := by
  obtain ⟨ρ, S, m, d, S', E, st, hf, q⟩ := h
  obtain ⟨p1, g1, hf⟩ := obind hf
  refine ⟨ρ, S, m, p1.1, p1.2, E, st, g1, fun v H1 m1 x1 s1 r1 => ?_⟩
  cases hp : p1.1 with
  | str z =>
    rw [hp] at hf r1
    cases r1
    cases hf
    cases ht : tabGet tab z with
    | none =>
      rw [ht] at q
      exact ⟨z, none, rfl, rfl, h1 z ht, q _ H1 m1 x1 s1 (.bl _)⟩
    | some d =>
      rw [ht] at q
      obtain ⟨u, v, e1, _, _⟩ := h2 z d ht
      exact ⟨z, some u, rfl, rfl, e1, q _ H1 m1 x1 s1 (.bl _)⟩
  | _ => rw [hp] at hf; cases hf
theorem de_inTab (T : KTab X.K X.w X.mg x tab) (ha : DE X e fa) (hg : Gl X x) (hd : (x == ("__debug__" : Str)) = false := by decide) (hm : behindInMarks .In (.Name x p) = false := by rfl) : DE X (.Compare e [.In] [.Name x p] pos) (mInTab tab fa) := by
  obtain ⟨a, es, n, h0, kd, h1, h2⟩ := T.ex
  exact pew (pe_cmpR (op_in_kd kd) ha (pe_glob (v := V.ref a) hg h0 rfl hd) hm) fun _ _ _ h => in_use (es := es) (n := n) h1 h2 h
theorem dt_inTab (T : KTab X.K X.w X.mg x tab) (ha : DE X e fa) (hg : Gl X x) (hd : (x == ("__debug__" : Str)) = false := by decide) (hm : behindInMarks .In (.Name x p) = false := by rfl) : DT X (.Compare e [.In] [.Name x p] pos) (mB (mInTab tab fa)) := by
  obtain ⟨a, es, n, h0, kd, h1, h2⟩ := T.ex
  exact ptw (pt_cmpR (op_in_kd kd) ha (pe_glob (v := V.ref a) hg h0 rfl hd) hm) fun _ _ _ h => in_use (es := es) (n := n) h1 h2 (useB h)
theorem de_ixTab (T : KTab X.K X.w X.mg x tab) (ha : DE X e fa) (hg : Gl X x) (hd : (x == ("__debug__" : Str)) = false := by decide) (hs : NoSl e := by exact fun _ _ => rfl) : DE X (.Subscript (.Name x p) e pos) (mIxTab tab fa) := by
  obtain ⟨a, es, n, h0, kd, h1, h2⟩ := T.ex
  refine ⟨fun pins s σ H Q I h => ?_⟩
  obtain ⟨ρ, S, m, d, S', E, st, hf, q⟩ := h
  obtain ⟨p1, g1, hf⟩ := obind hf
  have nm : PE X (.Name x p) (tC (V.ref a)) := pe_glob (v := V.ref a) hg h0 rfl hd
  refine subD_of PySem.F.slot_dict_getitem.lookup hs (thn (nm.run pins s σ H (fun v H' => v = V.ref a ∧ H' = H) I ⟨rfl, rfl⟩) fun u s1 ⟨y, H0, I0, ry, ey, eH⟩ => ?_)
  subst ey eH
  cases ry
  refine thn (ha.run pins s1 σ H0 (fun v H1 => ∃ z d1, v = .str z ∧ tabGet tab z = some d1 ∧ ∀ v1, (∀ (H : Hp) (m : List Addr), Rep X.K H m d1 v1) → Q v1 H1) I0 ⟨ρ, S, m, p1.1, p1.2, E, st, g1, fun v H1 m1 x1 s1 r1 => ?_⟩) fun iv s2 ⟨y, H2, I2, ry, z, d1, ey, ht, q2⟩ => ?_
  · cases hp : p1.1 with
    | str z =>
      rw [hp] at hf r1
      cases r1
      obtain ⟨d1, ht, hf⟩ := obind hf
      cases hf
      exact ⟨z, d, rfl, ht, fun v1 hv => q v1 H1 m1 x1 s1 (hv H1 m1)⟩
    | _ => rw [hp] at hf; cases hf
  · subst ey
    obtain ⟨u, v, e1, e2, e3⟩ := h2 z d1 ht
    exact ⟨kd_type kd I2, op_item_kd kd pins s2 σ H2 (.ref a) (.str z) _ iv Q I2 rfl ry ⟨z, u, v, rfl, rfl, e1, e2, q2 v e3⟩⟩
end
/-! ### from what the head has -/
theorem keyOf_str {e : DictEntry} {k : Str} {i : Int} (h : He.keyOf e = some (k, i)) : ∃ t, e.key = .str k t := by
  unfold He.keyOf at h
  split at h
  · rename_i x t q
    cases h
    exact ⟨t, q⟩
  · cases h
theorem keys_str {P : Params} : ∀ {l : List DictEntry} {ks : List Str}, l.map He.keyOf = He.keysIn P ks → ∀ e ∈ l, ∃ k t, k ∈ ks ∧ e.key = .str k t
  | [], _, _, _, h => by cases h
  | e :: l, [], h, _, _ => by cases h
  | e :: l, k :: ks, h, e', h' => by
    have h1 : He.keyOf e :: l.map He.keyOf = some (k, PyData.keyHash P k) :: He.keysIn P ks := h
    injection h1 with h2 h3
    rcases List.mem_cons.mp h' with rfl | h'
    · obtain ⟨t, q⟩ := keyOf_str h2
      exact ⟨k, t, List.mem_cons_self, q⟩
    · obtain ⟨k', t, q1, q2⟩ := keys_str h3 e' h'
      exact ⟨k', t, List.mem_cons_of_mem _ q1, q2⟩
theorem nsIn_none {K : PySem.W.Frag} {w : World} {a : Addr} {ks : List Str} {z : Str} (h : He.dicW K a = some (He.keysIn w.params ks)) (hz : z ∉ ks) : PySem.W.nsIn K a z = some none := by
  unfold He.dicW at h
  unfold PySem.W.nsIn
  split at h
  · rename_i c es n sl hl
    rw [hl]
    split at h
    · have hk := Option.some.inj h
      have all := keys_str hk
      have nf : es.toList.find? (·.key.isStr z) = none := by
        rw [List.find?_eq_none]
        intro e he
        obtain ⟨k, t, q1, q2⟩ := all e he
        rw [q2]
        intro q
        have : k = z := by simpa [Value.isStr] using q
        exact hz (this ▸ q1)
      have nr : es.toList.any (·.refKey) = false := by
        rw [List.any_eq_false]
        intro e he
        obtain ⟨k, t, q1, q2⟩ := all e he
        simp [DictEntry.refKey, q2]
      simp only [nf, nr]
      rfl
    · cases h
  · cases h
theorem tabGet_none : ∀ {tab : List (Str × D)} {z : Str}, tabGet tab z = none → z ∉ tab.map Prod.fst
  | [], _, _ => by simp
  | (k, d) :: r, z, h => by
    unfold tabGet at h
    by_cases e : k = z
    · rw [if_pos e] at h; cases h
    · rw [if_neg e] at h
      rw [List.map_cons, List.mem_cons]
      exact fun q => q.elim (fun q => e q.symm) (tabGet_none h)
theorem tabGet_mem : ∀ {tab : List (Str × D)} {z : Str} {d : D}, tabGet tab z = some d → (z, d) ∈ tab
  | [], _, _, h => by cases h
  | (k, d0) :: r, z, d, h => by
    unfold tabGet at h
    by_cases e : k = z
    · rw [if_pos e] at h
      cases h
      rw [e]
      exact List.mem_cons_self
    · rw [if_neg e] at h
      exact List.mem_cons_of_mem _ (tabGet_mem h)
/-- a value of the written part that is so and so -/
def Wv (K : PySem.W.Frag) (u : Value) (d : D) : Prop := ∃ v, L2.RelV v u ∧ ∀ (H : Hp) (m : List Addr), Rep K H m d v
theorem wv_strs {K : PySem.W.Frag} {a : Addr} {dd : Option Addr} {its : Array Value} {n : Nat} {sl : Array (Option Value)} {xs : List Str} (hl : K.lookup a = some ⟨.type "tuple", dd, .seq its n, sl⟩) (h : Paired (fun (x : Str) v => ∃ t, v = Value.str x t) xs its.toList) (hs : its.size ≤ sizeLine) : Wv K (.ref a) (.tup (xs.map D.str)) := by
  refine ⟨.ref a, rfl, fun H m => ?_⟩
  have r : ∀ {xs : List Str} {its : List Value}, Paired (fun (x : Str) v => ∃ t, v = Value.str x t) xs its → Vals (xs.map V.str) its := by
    intro xs its h
    induction h with
    | nil => exact .nil
    | cons r _ ih => exact .cons r ih
  exact .tup (.inr ⟨_, _, n, hl, rfl, rfl, hs, r h⟩) (rep_strs xs)
theorem kv_of {K : PySem.W.Frag} {h : Heap} {mg : Str → Option Value} {x : Str} {u : Value} {d : D} (X : K.In h) (G : h.Ns mainGlobals mg) (e : PySem.W.nsIn K mainGlobals x = some (some u)) (w : Wv K u d) : Kv K mg x d := by
  obtain ⟨v, h1, h2⟩ := w
  exact ⟨u, v, PySem.W.mg_of X G e, h1, h2⟩
theorem ktab_of {K : PySem.W.Frag} {w : World} {h : Heap} {mg : Str → Option Value} {x : Str} {a : Addr} {tab : List (Str × D)} (X : K.In h) (G : h.Ns mainGlobals mg) (e : PySem.W.nsIn K mainGlobals x = some (some (.ref a))) (hk : He.dicW K a = some (He.keysIn w.params (tab.map Prod.fst)))
    (hv : ∀ p ∈ tab, ∃ u, PySem.W.nsIn K a p.1 = some (some u) ∧ Wv K u p.2) : KTab K w mg x tab := by
  obtain ⟨es, n, kd⟩ := He.dicW_ok hk
  refine ⟨a, es, n, PySem.W.mg_of X G e, kd, fun z hz => nsIn_none hk (tabGet_none hz), fun z d hz => ?_⟩
  obtain ⟨u, h1, v, h2, h3⟩ := hv (z, d) (tabGet_mem hz)
  exact ⟨u, v, h1, h2, h3⟩
/-- a tuple of texts at the top, as the head has it -/
def AtT (K : PySem.W.Frag) (u : Option (Option Value)) (xs : List Str) : Prop := ∃ (a : Addr) (o : Obj) (its : Array Value) (n : Nat), u = some (some (.ref a)) ∧ K.lookup a = some o ∧ o.cls = .type "tuple" ∧ o.data = .seq its n ∧ Paired (fun (x : Str) v => ∃ t, v = Value.str x t) xs its.toList ∧ its.size ≤ sizeLine
theorem att_mk {K : PySem.W.Frag} {u : Option (Option Value)} {xs : List Str} {a : Addr} {o : Obj} {its : Array Value} {n : Nat} (h1 : u = some (some (.ref a))) (h2 : K.lookup a = some o) (h3 : o.cls = .type "tuple") (h4 : o.data = .seq its n)
    (h5 : Paired (fun (x : Str) v => ∃ t, v = Value.str x t) xs its.toList) (h6 : its.size ≤ sizeLine) : AtT K u xs := ⟨a, o, its, n, h1, h2, h3, h4, h5, h6⟩
theorem att_wv {K : PySem.W.Frag} {u : Option (Option Value)} {xs : List Str} (h : AtT K u xs) : ∃ v, u = some (some v) ∧ Wv K v (.tup (xs.map D.str)) := by
  obtain ⟨a, o, its, n, h1, h2, h3, h4, h5, h6⟩ := h
  obtain ⟨oc, od, dt, sl⟩ := o
  simp only at h3 h4
  subst h3 h4
  exact ⟨.ref a, h1, wv_strs h2 h5 h6⟩
theorem kv_att {K : PySem.W.Frag} {h : Heap} {mg : Str → Option Value} {x : Str} {xs : List Str} (X : K.In h) (G : h.Ns mainGlobals mg) (t : AtT K (PySem.W.nsIn K mainGlobals x) xs) : Kv K mg x (.tup (xs.map D.str)) := by
  obtain ⟨v, h1, h2⟩ := att_wv t
  exact kv_of X G h1 h2
end DD

/-! New lists that nobody changes: locked as soon as they are made, so that they are trees. -/
namespace DD
open PySem PySem.Spec PyProof.Rows L2

def fzQ (Q : VK) : VK := fun v H => Q v H ∨ ∃ a vs, v = .ref a ∧ H a = some (.lst vs) ∧ ∀ od, Q v (upd H a (.frz od (.lst vs)))
theorem pe_fz {X : Cx} {e : Expr} {t : TE} (h : PE X e t) : PE X e (fun σ H Q => t σ H (fzQ Q)) := ⟨fun pins s σ H Q I q => thn (h.run pins s σ H (fzQ Q) I q) fun u s' hs => by
  obtain ⟨v, H', I', r, q⟩ := hs
  rcases q with q | ⟨a, vs, rfl, e, q⟩
  · exact ⟨v, H', I', r, q⟩
  · obtain ⟨od, I2⟩ := I'.lock e trivial
    exact ⟨_, _, I2, r, q od⟩⟩
theorem newR {K : PySem.W.Frag} {H : Hp} {m : List Addr} {S : Sto} {ds : List D} {vs : List V} {p : Addr} {Q : VK} (s : StR K H m S) (r : RepL K H m ds vs) (hp : H p = none)
    (q : ∀ v H' m', Ext H m H' m' → StR K H' m' S → Rep K H' m' (.rol ds) v → Q v H') : fzQ Q (.ref p) (upd H p (.lst vs)) := .inr ⟨p, vs, rfl, upd_same, fun od => by
  rw [upd_upd]
  exact q _ _ m (Ext.new1 hp) (s.new1 hp) (.rol (.inl ⟨od, upd_same⟩) (r.mono s (Ext.new1 hp)))⟩
/-- the same in a slot: behind an assignment of a new list -/
def fzS (i : Nat) (N : L2.St → Hp → Prop) : L2.St → Hp → Prop := fun σ H => N σ H ∨ ∃ a vs, H a = some (.lst vs) ∧ ∀ od, N σ (upd H a (.frz od (.lst vs)))
theorem ps_fz {X : Cx} {st : Stmt} {t : TS} (i : Nat) (h : PS X st t) : PS X st (fun E σ H => t { E with nx := fzS i E.nx } σ H) := ⟨fun pins s σ H E I q => thn (h.run pins s σ H _ I q) fun f s' hs => by
  cases f with
  | next =>
    obtain ⟨σ', H', I', q⟩ := hs
    rcases q with q | ⟨a, vs, e, q⟩
    · exact ⟨σ', H', I', q⟩
    · obtain ⟨od, I2⟩ := I'.lock e trivial
      exact ⟨_, _, I2, q od⟩
  | ret u => exact hs
  | brk => exact hs
  | cont => exact hs⟩

section
variable {X : Cx} {a b e c : Expr} {es : List Expr} {fa fb fc : Ex} {ga : As} {pos : Pos} {k : Nat}

/-- a new list: a tree that nobody changes (true), or a numbered cell -/
def mkD (fr : Bool) (ds : List D) (S : Sto) : D := if fr = true then .rol ds else .loc S.length
def mkS (fr : Bool) (ds : List D) (S : Sto) : Sto := if fr = true then S else S ++ [.lst ds]
abbrev mkL (fr : Bool) (ds : List D) (S : Sto) : D × Sto := (mkD fr ds S, mkS fr ds S)
@[simp] theorem mkD_true {ds : List D} {S : Sto} : mkD true ds S = .rol ds := rfl
@[simp] theorem mkD_false {ds : List D} {S : Sto} : mkD false ds S = .loc S.length := rfl
@[simp] theorem mkS_true {ds : List D} {S : Sto} : mkS true ds S = S := rfl
@[simp] theorem mkS_false {ds : List D} {S : Sto} : mkS false ds S = S ++ [.lst ds] := rfl
theorem newX (fr : Bool) {K : PySem.W.Frag} {H : Hp} {m : List Addr} {S : Sto} {ds : List D} {vs : List V} {p : Addr} {Q : VK} (s : StR K H m S) (r : RepL K H m ds vs) (hp : H p = none)
    (q : ∀ v H' m', Ext H m H' m' → StR K H' m' (mkL fr ds S).2 → Rep K H' m' (mkL fr ds S).1 v → Q v H') : fzQ Q (.ref p) (upd H p (.lst vs)) := by
  cases fr with
  | true => exact newR s r hp q
  | false =>
    obtain ⟨q1, q2, q3⟩ := newL s r hp
    exact .inl (q _ _ _ q1 q2 q3)
theorem rF_b1 {id : String} {x : Str} {p : Pos} {r : List V → Hp → VK → Prop} {g : Op1} (hc : CallR X (.builtin id) r) (o : Op1D X.K (fun xs H Q => r xs H (fzQ Q)) g) (hg : Gl X x) (hm : X.mg x = none) (hv : bootBuiltins x = some (.builtin id)) (ha : DA X [e] ga) (hn : x ≠ "__name__" := by decide) (hdb : (x == ("__debug__" : Str)) = false := by decide)
    (he : starEach [e] X.env = (false, eval e X.env) :: starEach [] X.env := by rfl) : DE X (.Call (.Name x p) [e] [] pos) (m1 g ga) := pew (pe_fz (pe_callB hc hg hm hv ha.pa hn hdb he rfl)) fun _ _ _ h => use1 o (fun ρ S ds S' q => ha.len ρ S ds S' q) h
theorem rF_t1 {id : String} {x : Str} {p : Pos} {r : List V → Hp → VK → Prop} {g : Op1} (hc : CallR X (.type id) r) (o : Op1D X.K (fun xs H Q => r xs H (fzQ Q)) g) (hg : Gl X x) (hm : X.mg x = none) (hv : bootBuiltins x = some (.type id)) (ha : DA X [e] ga) (hn : x ≠ "__name__" := by decide) (hdb : (x == ("__debug__" : Str)) = false := by decide)
    (he : starEach [e] X.env = (false, eval e X.env) :: starEach [] X.env := by rfl) : DE X (.Call (.Name x p) [e] [] pos) (m1 g ga) := pew (pe_fz (pe_callTy hc hg hm hv ha.pa hn hdb he rfl)) fun _ _ _ h => use1 o (fun ρ S ds S' q => ha.len ρ S ds S' q) h
/-! ### displays -/
def mLstX (fr : Bool) (as : As) : Ex := fun ρ S => (as ρ S).bind fun p => some (mkL fr p.1 p.2)
theorem de_lstX (fr : Bool) (ha : DA X es ga) (hl : es.length ≤ 1000 := by decide) : DE X (.List es pos) (mLstX fr ga) := pew (pe_fz (pe_lst ha.pa)) fun σ H Q h => by
  obtain ⟨ρ, S, m, d', S', E, st, hf, q⟩ := h
  obtain ⟨p, h1, hf⟩ := obind hf
  cases hf
  refine ⟨ρ, S, m, p.1, p.2, E, st, h1, fun vs H1 m1 x1 s1 r1 => ⟨?_, fun l hl' => ?_⟩⟩
  · rw [← r1.length, ha.len _ _ _ _ h1]; exact Nat.le_trans hl (by decide)
  · exact newX fr s1 r1 hl' fun v H' m' x => q v H' m' (x1.trans x)
/-! ### lists of both sorts -/
def LsE (K : PySem.W.Frag) (H : Hp) (a : Addr) (xs : List V) : Prop := H a = some (.lst xs) ∨ RoL K H a xs
theorem lsE {pins : List (Addr × Obj)} {σ : L2.St} {H : Hp} {s : Shared} {l : Addr} {xs : List V} (I : Inv X pins σ H s) (h : LsE X.K H l xs) :
    xs.length ≤ sizeLine ∧ ∃ (its : List Value) (n : Nat), Vals xs its ∧ xs.length = its.length ∧ s.heap.get? l = some { cls := .type "list", data := .seq its.toArray n } := by
  rcases h with h | ⟨o, h⟩ | ⟨its, n, hk, hs, r⟩
  · exact I.lstM h
  · obtain ⟨_, z, its, n, r, e⟩ := I.hok l _ h
    exact ⟨z, its, n, r, r.length, e⟩
  · refine ⟨by rw [r.length]; simpa using hs, its.toList, n, r, r.length, ?_⟩
    simpa using I.kIn l _ hk
theorem lstOf_E {K : PySem.W.Frag} {H : Hp} {m : List Addr} {S : Sto} (s : StR K H m S) {d : D} {v : V} {ds : List D} (r : Rep K H m d v) (h : lstOf S d = some ds) : ∃ a vs, v = .ref a ∧ LsE K H a vs ∧ RepL K H m ds vs := by
  cases d with
  | rol es => cases h; cases r with | rol hs rs => exact ⟨_, _, rfl, .inr hs, rs⟩
  | loc k =>
    simp only [lstOf] at h
    cases hk : S[k]? with
    | none => rw [hk] at h; cases h
    | some c =>
      rw [hk] at h
      cases c with
      | dic kvs => cases h
      | lst es =>
        cases h
        obtain ⟨a, vs, rfl, _, e, rs⟩ := s.lst r hk
        exact ⟨a, vs, rfl, .inl e, rs⟩
  | _ => cases h
def rCatE (K : PySem.W.Frag) : R2 := fun x y H Q => ∃ l b xs zs, x = .ref l ∧ y = .ref b ∧ LsE K H l xs ∧ LsE K H b zs ∧ xs.length + zs.length ≤ sizeLine ∧ ∀ p, H p = none → Q (.ref p) (upd H p (.lst (xs ++ zs)))
theorem op_catE : OpR X (binaryOp .Add) (rCatE X.K) := by
  intro pins s σ H x y v u Q I rx ry h
  obtain ⟨l, b, xs, zs, rfl, rfl, hH, hB, hz, q⟩ := h
  cases rx
  cases ry
  obtain ⟨z, its, n, r, hl, e⟩ := lsE I hH
  obtain ⟨z2, its2, n2, r2, hl2, e2⟩ := lsE I hB
  refine PySem.P.add_list e e2 ?_ (by rw [List.size_toArray, List.size_toArray]; omega)
  have ea : its.toArray ++ its2.toArray = (its ++ its2).toArray := by simp
  rw [ea]
  exact ⟨.ref _, _, I.lnew (t' := s.toks) (r.append r2) (by rw [List.length_append]; omega), rfl, q _ I.fresh⟩
def addX (fr : Bool) : Op2
  | .int i, .int j, S => some (.int (i + j), S)
  | .str a, .str b, S => if a.length + b.length ≤ sizeLine then some (.str (a ++ b), S) else none
  | .tup xs, .tup ys, S => if xs.length + ys.length ≤ sizeLine then some (.tup (xs ++ ys), S) else none
  | d, e, S => (lstOf S d).bind fun xs => (lstOf S e).bind fun ys => if xs.length + ys.length ≤ sizeLine then some (mkL fr (xs ++ ys) S) else none
def rAddX (K : PySem.W.Frag) : R2 := fun x y H Q => (rI0 (fun i j => .int (i + j))) x y H Q ∨ (∃ i j, x = .str i ∧ y = .str j ∧ i.length + j.length ≤ sizeLine ∧ Q (.str (i ++ j)) H) ∨ rCatA K x y H Q ∨ rCatE K x y H Q
theorem or_addX {X : Cx} : OpR X (binaryOp .Add) (rAddX X.K) := op_add.or (op_add_str.or (op_catA.or op_catE))
theorem od_addX (fr : Bool) {K : PySem.W.Frag} : OpD K (fun x y H Q => rAddX K x y H (fzQ Q)) (addX fr) := by
  intro H m S x y d e d' S' Q s rx ry h k
  have lists : ((lstOf S d).bind fun xs => (lstOf S e).bind fun ys => if xs.length + ys.length ≤ sizeLine then some (mkL fr (xs ++ ys) S) else none) = some (d', S') → rAddX K x y H (fzQ Q) := fun h => by
    obtain ⟨xs, h1, h⟩ := obind h
    obtain ⟨ys, h2, h⟩ := obind h
    by_cases hl : xs.length + ys.length ≤ sizeLine
    · rw [if_pos hl] at h
      cases h
      obtain ⟨a1, vs, rfl, e1, r1⟩ := lstOf_E s rx h1
      obtain ⟨b1, us, rfl, e2, r2⟩ := lstOf_E s ry h2
      exact .inr (.inr (.inr ⟨_, _, _, _, rfl, rfl, e1, e2, by rw [← r1.length, ← r2.length]; exact hl, fun p hp => newX fr s (r1.app r2) hp k⟩))
    · rw [if_neg hl] at h; cases h
  cases d with
  | int i =>
    cases e with
    | int j => cases h; cases rx; cases ry; exact .inl ⟨i, j, rfl, rfl, .inl (k _ H m (Ext.refl H m) s (.int _))⟩
    | _ => exact lists h
  | str a =>
    cases e with
    | str b =>
      simp only [addX] at h
      by_cases hl : a.length + b.length ≤ sizeLine
      · rw [if_pos hl] at h; cases h; cases rx; cases ry; exact .inr (.inl ⟨a, b, rfl, rfl, hl, .inl (k _ H m (Ext.refl H m) s (.str _))⟩)
      · rw [if_neg hl] at h; cases h
    | _ => exact lists h
  | tup xs =>
    cases e with
    | tup ys =>
      simp only [addX] at h
      by_cases hl : xs.length + ys.length ≤ sizeLine
      · rw [if_pos hl] at h; cases h
        cases rx with
        | tup h1 r1 =>
          cases ry with
          | tup h2 r2 =>
            refine .inr (.inr (.inl ⟨_, _, _, _, rfl, rfl, h1, h2, by rw [← r1.length, ← r2.length]; exact hl, fun e => .inl ?_, fun e1 e => .inl ?_, fun _ _ p hp => .inl ?_⟩))
            · subst e; cases r1; exact k _ H m (Ext.refl H m) s (.tup h2 r2)
            · subst e; cases r2; rw [List.append_nil] at k; exact k _ H m (Ext.refl H m) s (.tup h1 r1)
            · exact k _ _ m (Ext.new1 hp) (s.new1 hp) (.tup (SqT.of upd_same) ((r1.app r2).mono s (Ext.new1 hp)))
      · rw [if_neg hl] at h; cases h
    | _ => exact lists h
  | _ => cases e <;> exact lists h
theorem de_addX (fr : Bool) (ha : DE X a fa) (hb : DE X b fb) : DE X (.BinOp a .Add b pos) (m2 (addX fr) fa fb) := pew (pe_fz (pe_op or_addX ha hb)) fun _ _ _ h => use2 (od_addX fr) h
/-! ### slices -/
def sliceX (fr : Bool) (d : D) (lo hi : Option Int) (S : Sto) : Option (D × Sto) := match d with
  | .tup ds => some (.tup (cutD ds lo hi), S)
  | .str z => if z.length ≤ sizeLine then some (.str (cutS z lo hi), S) else none
  | d => (lstOf S d).bind fun ds => some (mkL fr (cutD ds lo hi) S)
def mSlX (fr : Bool) (f : Ex) (lo hi : Po) : Ex := fun ρ S => (f ρ S).bind fun p => (lo ρ p.2).bind fun l => (hi ρ l.2).bind fun u => sliceX fr p.1 l.1 u.1 u.2
theorem sliceX_rep (fr : Bool) {K : PySem.W.Frag} {H : Hp} {m : List Addr} {S S' : Sto} {d d' : D} {v : V} {lo hi : Option Int} {Q : VK} (s : StR K H m S) (r : Rep K H m d v) (h : sliceX fr d lo hi S = some (d', S'))
    (q : ∀ v H' m', Ext H m H' m' → StR K H' m' S' → Rep K H' m' d' v → Q v H') : rSlD K v lo hi H (fzQ Q) := by
  have seq : (lstOf S d).bind (fun ds => some (mkL fr (cutD ds lo hi) S)) = some (d', S') → rSlD K v lo hi H (fzQ Q) := fun hh => by
    obtain ⟨ds, h4, hh⟩ := obind hh
    cases hh
    obtain ⟨a', vs, rfl, hs, rs⟩ := lstOf_rep s r h4
    exact .inr (.inl ⟨a', vs, rfl, hs, fun p hp => newX fr s (cutD_rep rs lo hi) hp q⟩)
  cases d with
  | tup ds =>
    cases h
    cases r with
    | tup hs rs =>
      refine .inl ⟨_, _, rfl, hs, fun e => .inl ?_, fun _ p hp => .inl ?_⟩
      · have := cutD_rep rs lo hi
        rw [cutV_all e] at this
        exact q _ H m (Ext.refl H m) s (.tup hs this)
      · exact q _ _ m (Ext.new1 hp) (s.new1 hp) (.tup (SqT.of upd_same) ((cutD_rep rs lo hi).mono s (Ext.new1 hp)))
  | str z =>
    simp only [sliceX] at h
    by_cases hz : z.length ≤ sizeLine
    · rw [if_pos hz] at h; cases h; cases r
      exact .inr (.inr ⟨z, rfl, hz, .inl (q _ H m (Ext.refl H m) s (.str _))⟩)
    · rw [if_neg hz] at h; cases h
  | _ => exact seq h
theorem de_slX (fr : Bool) {lo hi : Option Expr} {fl fh : Po} {p2 : Pos} (ha : DE X a fa) (hl : DP X lo fl) (hh : DP X hi fh) : DE X (.Subscript a (.Slice lo hi none p2) pos) (mSlX fr fa fl fh) :=
  pew (pe_fz (pe_slice (r := rSlD X.K) (sl_tupA.or (sl_list.or sl_str)) ha hl hh)) fun σ H Q h => by
    obtain ⟨ρ, S, m, d, S', E, st, hf, q⟩ := h
    obtain ⟨p1, h1, hf⟩ := obind hf
    obtain ⟨p2, h2, hf⟩ := obind hf
    obtain ⟨p3, h3, hf⟩ := obind hf
    refine ⟨ρ, S, m, p1.1, p1.2, E, st, h1, fun v H1 m1 x1 s1 r1 => ⟨ρ, p1.2, m1, p2.1, p2.2, E.mono st x1, s1, h2, fun H2 m2 x2 s2 => ⟨ρ, p2.2, m2, p3.1, p3.2, (E.mono st x1).mono s1 x2, s2, h3, fun H3 m3 x3 s3 => ?_⟩⟩⟩
    exact sliceX_rep fr s3 ((r1.mono s1 x2).mono s2 x3) hf fun w H4 m4 x4 s4 r4 => q w H4 m4 (((x1.trans x2).trans x3).trans x4) s4 r4
/-! ### list(range), list(..), split, [::-1], sorted(set) -/
def mListRgX (fr : Bool) (f : Rm) : Ex := fun ρ S => (f ρ S).bind fun p => if rngOk p.1 = true ∧ rngOk p.2.1 = true ∧ (p.2.1 - p.1).toNat ≤ 2 ^ 24 then some (mkL fr (rngL p.1 (p.2.1 - p.1).toNat) p.2.2) else none
theorem de_listRgX (fr : Bool) {e2 : Expr} {fr' : Rm} {te : L2.St → Hp → (Int → Int → Hp → Prop) → Prop} {p : Pos} (hc : X.calm = true) (hg : Gl X "list") (hm : X.mg "list" = none) (he : PRg X e2 te) (w : ∀ σ H Q, tRm X.K fr' σ H Q → te σ H Q) (na : starEach [e2] X.env = (false, eval e2 X.env) :: starEach [] X.env := by rfl) :
    DE X (.Call (.Name "list" p) [e2] [] pos) (mListRgX fr fr') := pew (pe_fz (pe_listRg hc hg hm he na)) fun σ H Q h => by
  obtain ⟨ρ, S, m, d, S', E, st, hf, q⟩ := h
  obtain ⟨p, h1, hf⟩ := obind hf
  by_cases hc : rngOk p.1 = true ∧ rngOk p.2.1 = true ∧ (p.2.1 - p.1).toNat ≤ 2 ^ 24
  · rw [if_pos hc] at hf; cases hf
    refine w σ H _ ⟨ρ, S, m, p.1, p.2.1, p.2.2, E, st, h1, fun H1 m1 x1 s1 => ⟨⟨(rngOk_of hc.1).1, (rngOk_of hc.1).2, (rngOk_of hc.2.1).1, (rngOk_of hc.2.1).2, hc.2.2⟩, fun l hl => ?_⟩⟩
    exact newX fr s1 (repL_rgV p.1 p.2.1) hl fun v H' m' x => q v H' m' (x1.trans x)
  · rw [if_neg hc] at hf; cases hf
theorem de_listRg1X (fr : Bool) {p p2 pos2 : Pos} (hc : X.calm = true) (hg : Gl X "list") (hm : X.mg "list" = none) (hg2 : Gl X "range") (hm2 : X.mg "range" = none) (ha : DE X a fa) (na : starEach [a] X.env = (false, eval a X.env) :: starEach [] X.env := by rfl) :
    DE X (.Call (.Name "list" p) [.Call (.Name "range" p2) [a] [] pos2] [] pos) (mListRgX fr (mRg1 fa)) := de_listRgX fr hc hg hm (prg_1 hg2 hm2 ha na) fun _ _ _ h => use_rg1 h
theorem de_listRg2X (fr : Bool) {p p2 pos2 : Pos} (hc : X.calm = true) (hg : Gl X "list") (hm : X.mg "list" = none) (hg2 : Gl X "range") (hm2 : X.mg "range" = none) (ha : DE X a fa) (hb : DE X b fb) (na : starEach [a, b] X.env = (false, eval a X.env) :: starEach [b] X.env := by rfl) (nb : starEach [b] X.env = (false, eval b X.env) :: starEach [] X.env := by rfl)
    (hp : (backTo pos2 (starEach [b] X.env)).any (·.1) = false := by rfl) : DE X (.Call (.Name "list" p) [.Call (.Name "range" p2) [a, b] [] pos2] [] pos) (mListRgX fr (mRg2 fa fb)) := de_listRgX fr hc hg hm (prg_2 hg2 hm2 ha hb na nb hp) fun _ _ _ h => use_rg2 h
def listX (fr : Bool) : Op1 := fun d S => (seqOf S d).bind fun ds => some (mkL fr ds S)
theorem o1_listX (fr : Bool) {K : PySem.W.Frag} : Op1D K (fun xs H Q => ∃ p ys, xs = [.ref p] ∧ (SqL K H p ys ∨ SqT K H p ys) ∧ ∀ l, H l = none → fzQ Q (.ref l) (upd H l (.lst ys))) (listX fr) := by
  intro H m S x d d' S' Q s r h k
  obtain ⟨ds, h1, h⟩ := obind h
  cases h
  obtain ⟨a, vs, rfl, hs, rs⟩ := seqOf_rep s r h1
  exact ⟨a, vs, rfl, hs, fun l hl => newX fr s rs hl k⟩
theorem de_listX (fr : Bool) {p : Pos} (hg : Gl X "list") (hm : X.mg "list" = none) (ha : DA X [e] ga) (he : starEach [e] X.env = (false, eval e X.env) :: starEach [] X.env := by rfl) : DE X (.Call (.Name "list" p) [e] [] pos) (m1 (listX fr) ga) :=
  rF_t1 call_list_of (o1_listX fr) hg hm (by decide +kernel) ha (by decide) (by decide) he
def splitX (fr : Bool) : Op2 := fun d e S => match d, e with
  | .str a, .str b => if (b.length == 0) = false ∧ a.length + 2 ≤ sizeLine then some (mkL fr ((Txt.split a b).map D.str) S) else none
  | _, _ => none
theorem st1_useF {fo fe : Ex} {K : PySem.W.Frag} {r : V → List V → Hp → VK → Prop} {g : Op2} (o : OpD K (fun x y H Q => r x [y] H (fzQ Q)) g) {σ : L2.St} {H : Hp} {Q : VK} (h : tE K (mSt1 g fo fe) σ H Q) : tM1 r (tE K fo) (tE K fe) σ H (fzQ Q) := by
  obtain ⟨ρ, S, m, d', S', E, st, hf, q⟩ := h
  obtain ⟨p1, h1, hf⟩ := obind hf
  obtain ⟨z, hz, hf⟩ := obind hf
  obtain ⟨p2, h2, hf⟩ := obind hf
  exact ⟨ρ, S, m, p1.1, p1.2, E, st, h1, fun v H1 m1 x1 s1 r1 => ⟨⟨z, (strOf_rep r1 hz).2⟩, ρ, p1.2, m1, p2.1, p2.2, E.mono st x1, s1, h2, fun u H2 m2 x2 s2 r2 =>
    o H2 m2 p2.2 v u p1.1 p2.1 d' S' Q s2 (r1.mono s1 x2) r2 hf fun w H3 m3 x3 s3 r3 => q w H3 m3 ((x1.trans x2).trans x3) s3 r3⟩⟩
theorem de_splitX (fr : Bool) {fo fe : Ex} {apos : Pos} (ho : DE X a fo) (he : DE X e fe) (hs : starEach [e] X.env = [(false, eval e X.env)] := by rfl) (hbase : attributeBase a "split" X.env (eval a X.env) = eval a X.env := by rfl) (hline : (apos.endLine == pos.line) = true := by rfl) :
    DE X (.Call (.Attribute a "split" apos) [e] [] pos) (mSt1 (splitX fr) fo fe) := pew (pe_fz (pe_split ho he hs hbase hline)) fun _ _ _ h => st1_useF (fun H m S x y d e d' S' Q s rx ry h k => by
  match d, e, h with
  | .str z, .str t, h =>
    cases rx
    cases ry
    by_cases hz : (t.length == 0) = false ∧ z.length + 2 ≤ sizeLine
    · simp only [splitX, if_pos hz] at h
      cases h
      refine ⟨z, t, rfl, rfl, hz.1, hz.2, fun p hp => ?_⟩
      exact newX fr s (rep_strs (Txt.split z t)) hp k
    · simp only [splitX, if_neg hz] at h; cases h) h
def mRevX (fr : Bool) (fa : Ex) : Ex := fun ρ S => (fa ρ S).bind fun p => match p.1 with
  | .tup ds => if ds.length ≤ sizeLine then some (.tup ds.reverse, p.2) else none
  | d => (lstOf p.2 d).bind fun ds => some (mkL fr ds.reverse p.2)
theorem de_revX (fr : Bool) {k : Nat} {p1 p2 p3 : Pos} (ha : DE X e fa) : DE X (.Subscript e (.Slice none none (some (.UnaryOp .USub (.Constant (.int 1) k p1) p2)) p3) pos) (mRevX fr fa) := pew (pe_fz (PEor (pe_revL ha) (pe_revT ha))) fun σ H Q h => by
  obtain ⟨ρ, S, m, d, S', E, st, hf, q⟩ := h
  obtain ⟨p, h1, hf⟩ := obind hf
  by_cases ht : ∃ es, p.1 = .tup es
  · obtain ⟨es, hp⟩ := ht
    rw [hp] at hf
    by_cases hz : es.length ≤ sizeLine
    · simp only [if_pos hz] at hf
      cases hf
      refine .inr ⟨ρ, S, m, p.1, p.2, E, st, h1, fun v H1 m1 x1 s1 r1 => ?_⟩
      rw [hp] at r1
      cases r1 with
      | tup hs rs => exact ⟨_, _, rfl, hs, by rw [← rs.length]; exact hz, fun l hl => .inl (q _ _ m1 (x1.trans (Ext.new1 hl)) (s1.new1 hl) (.tup (SqT.of upd_same) (rs.reverse.mono s1 (Ext.new1 hl))))⟩
    · simp only [if_neg hz] at hf; cases hf
  · have hf' : ((lstOf p.2 p.1).bind fun ds => some (mkL fr ds.reverse p.2)) = some (d, S') := by
      cases hp : p.1 with
      | tup es => exact absurd ⟨es, hp⟩ ht
      | _ => rw [hp] at hf; exact hf
    obtain ⟨ds, h2, hf'⟩ := obind hf'
    cases hf'
    refine .inl ⟨ρ, S, m, p.1, p.2, E, st, h1, fun v H1 m1 x1 s1 r1 => ?_⟩
    obtain ⟨a', vs, rfl, hs, rs⟩ := lstOf_rep s1 r1 h2
    refine ⟨a', vs, rfl, hs, fun l hl => ?_⟩
    exact newX fr s1 rs.reverse hl fun v H' m' x => q v H' m' (x1.trans x)
def sortX (fr : Bool) : Op1 := fun d S => (lstOf S d).bind fun ds => if ds.all (fun x => (keyS x).isSome) = true then some (mkL fr (isort byS ds) S) else none
theorem o1_sortX (fr : Bool) {K : PySem.W.Frag} : Op1D K (fun xs H Q => rSortS K xs H (fzQ Q)) (sortX fr) := by
  intro H m S x d d' S' Q s r h q
  obtain ⟨ds, h1, h⟩ := obind h
  by_cases hc : ds.all (fun x => (keyS x).isSome) = true
  · rw [if_pos hc] at h; cases h
    obtain ⟨a, vs, rfl, hs, rs⟩ := lstOf_rep s r h1
    obtain ⟨L, rfl, rfl, hL⟩ := pairs_of rs
    refine ⟨a, L.map fun p => (p.2, keyS0 p.1), rfl, by rw [List.map_map]; exact hs, fun z hz => ?_, fun p hp => ?_⟩
    · obtain ⟨p, hp, rfl⟩ := List.mem_map.mp hz
      have hk : (keyS p.1).isSome = true := List.all_eq_true.mp hc _ (List.mem_map.mpr ⟨p, hp, rfl⟩)
      have hr := hL p hp
      show ∃ t, p.2 = .ref t ∧ SqT K H t [.int (keyS0 p.1).1, .str (keyS0 p.1).2]
      generalize p.1 = dd at hk hr ⊢
      generalize p.2 = vv at hr ⊢
      unfold keyS0
      unfold keyS at hk ⊢
      split at hk
      · cases hr with
        | tup ht rs =>
          cases rs with
          | cons a1 a2 =>
            cases a2 with
            | cons b1 b2 => cases b2; cases a1; cases b1; exact ⟨_, rfl, ht⟩
      · cases hk
    · have e1 : (isort (fun x y : V × KS => ltS x.2 y.2) (L.map fun p => (p.2, keyS0 p.1))).map (·.1) = (isort (fun a b : D × V => byS a.1 b.1) L).map (·.2) := by
        rw [isort_map, List.map_map]; rfl
      have e2 : isort byS (L.map (·.1)) = (isort (fun a b : D × V => byS a.1 b.1) L).map (·.1) := isort_map _ _
      rw [e1]
      have rr : RepL K H m (isort byS (L.map (·.1))) ((isort (fun a b : D × V => byS a.1 b.1) L).map (·.2)) := by
        rw [e2]
        exact repL_map fun p hp => hL p (isort_mem.mp hp)
      exact newX fr s rr hp q
  · rw [if_neg hc] at h; cases h
theorem de_sortX (fr : Bool) {p : Pos} (hg : Gl X "sorted") (hm : X.mg "sorted" = none) (ha : DA X [e] ga) (he : starEach [e] X.env = (false, eval e X.env) :: starEach [] X.env := by rfl) : DE X (.Call (.Name "sorted" p) [e] [] pos) (m1 (sortX fr) ga) :=
  rF_b1 call_sortS (o1_sortX fr) hg hm (by decide +kernel) ha (by decide) (by decide) he
def sortLX (fr : Bool) : Op1 := fun d S => (lstOf S d).bind fun ds => if alikeD ds = true then some (mkL fr (isort byL ds) S) else none
theorem o1_sortLX (fr : Bool) {K : PySem.W.Frag} : Op1D K (fun xs H Q => rSortL K xs H (fzQ Q)) (sortLX fr) := by
  intro H m S x d d' S' Q s r h q
  obtain ⟨ds, h1, h⟩ := obind h
  by_cases hc : alikeD ds = true
  · rw [if_pos hc] at h; cases h
    obtain ⟨a, vs, rfl, hs, rs⟩ := lstOf_rep s r h1
    obtain ⟨L, rfl, rfl, hL⟩ := pairs_of rs
    obtain ⟨p, hp⟩ := alike_mem hc
    refine ⟨a, L.map fun p => (p.2, keysL0 p.1), p, rfl, by rw [List.map_map]; exact hs, fun z hz => ?_, fun p hp => ?_⟩
    · obtain ⟨w, hw, rfl⟩ := List.mem_map.mp hz
      obtain ⟨⟨k, hk⟩, al⟩ := hp w.1 (List.mem_map.mpr ⟨w, hw, rfl⟩)
      refine ⟨al, ?_⟩
      have hr := hL w hw
      show ∃ t, w.2 = .ref t ∧ SqT K H t ((keysL0 w.1).map kV)
      unfold keysL0
      rw [hk]
      generalize w.1 = dd at hk hr
      generalize w.2 = vv at hr
      cases dd with
      | tup es =>
        cases hr with
        | tup ht rs =>
          have := keysRep rs hk
          rw [this] at ht
          exact ⟨_, rfl, ht⟩
      | _ => cases hk
    · have e1 : (isort (fun x y : V × List Key => ltL x.2 y.2) (L.map fun p => (p.2, keysL0 p.1))).map (·.1) = (isort (fun a b : D × V => byL a.1 b.1) L).map (·.2) := by
        rw [isort_map, List.map_map]; rfl
      have e2 : isort byL (L.map (·.1)) = (isort (fun a b : D × V => byL a.1 b.1) L).map (·.1) := isort_map _ _
      rw [e1]
      have rr : RepL K H m (isort byL (L.map (·.1))) ((isort (fun a b : D × V => byL a.1 b.1) L).map (·.2)) := by
        rw [e2]
        exact repL_map fun p hp => hL p (isort_mem.mp hp)
      exact newX fr s rr hp q
  · rw [if_neg hc] at h; cases h
theorem de_sortLX (fr : Bool) {p : Pos} (hg : Gl X "sorted") (hm : X.mg "sorted" = none) (ha : DA X [e] ga) (he : starEach [e] X.env = (false, eval e X.env) :: starEach [] X.env := by rfl) : DE X (.Call (.Name "sorted" p) [e] [] pos) (m1 (sortLX fr) ga) :=
  rF_b1 call_sortL (o1_sortLX fr) hg hm (by decide +kernel) ha (by decide) (by decide) he
def mSortSetX (fr : Bool) (fa : Ex) : Ex := fun ρ S => (fa ρ S).bind fun p => (setKeys p.1).bind fun kss => if kindsOf kss = true then some (mkL fr ((isort ltL (uniqK kss)).map fun k => .tup (k.map dK)) p.2) else none
theorem de_sortSetX (fr : Bool) {p p2 pos2 : Pos} (hr : RG k X) (hg : Gl X "sorted") (hm : X.mg "sorted" = none) (hg2 : Gl X "set") (hm2 : X.mg "set" = none) (ha : DE X e fa)
    (h1 : starEach [e] X.env = (false, eval e X.env) :: starEach [] X.env := by rfl) (h2 : starEach [.Call (.Name "set" p2) [e] [] pos2] X.env = (false, eval (.Call (.Name "set" p2) [e] [] pos2) X.env) :: starEach [] X.env := by rfl) :
    DE X (.Call (.Name "sorted" p) [.Call (.Name "set" p2) [e] [] pos2] [] pos) (mSortSetX fr fa) := by
  have hs : PE X (.Call (.Name "set" p2) [e] [] pos2) _ := pe_callTy (call_setM hr.calm (by have := hr.hu65; omega)) hg2 hm2 (by decide +kernel) (pa_cons ha pa_nil h1) (by decide) (by decide) h1 rfl
  refine pew (pe_fz (pe_callB (call_sortM hr.calm) hg hm (by decide +kernel) (pa_cons hs pa_nil h2) (by decide) (by decide) h2 rfl)) fun σ H Q h => ?_
  obtain ⟨ρ, S, m, d, S', E, st, hf, q⟩ := h
  obtain ⟨p1, g1, hf⟩ := obind hf
  obtain ⟨kss, g2, hf⟩ := obind hf
  by_cases hk : kindsOf kss = true
  · rw [if_pos hk] at hf
    cases hf
    obtain ⟨pt, hpt⟩ := kinds_mem hk
    refine ⟨ρ, S, m, p1.1, p1.2, E, st, g1, fun v H1 m1 x1 s1 r1 => ?_⟩
    obtain ⟨l, ks, rfl, k1, k2, k3, rfl⟩ := set_rep r1 g2
    refine ⟨l, ks, rfl, .inl k1, k2, few_len k3, fun a L hn g nd => ?_⟩
    have x2 : Ext H1 m1 (upd H1 a (SetMO X.prog X.w a L)) m1 := Ext.new1 hn
    have s2 := s1.new1 (o := SetMO X.prog X.w a L) hn
    have from_ : ∀ q ∈ L, q ∈ ks := fun q hq => List.mem_of_mem_take (g.from_ q hq)
    refine ⟨a, L, pt, rfl, upd_same, fun q hq => ⟨x2.sqT s1 (k2 q (from_ q hq)), hpt _ (List.mem_map.mpr ⟨q, from_ q hq, rfl⟩)⟩, fun dd hd => ?_⟩
    have e1 : (isort ltL (uniqK (ks.map Prod.snd))).map (fun k => D.tup (k.map dK)) = (isort byK L).map fun q => .tup (q.2.map dK) := by
      rw [← isort_perm (has_perm g nd), ← isort_snd, List.map_map]
      rfl
    have rl : RepL X.K (upd H1 a (SetMO X.prog X.w a L)) m1 ((isort byK L).map fun q => .tup (q.2.map dK)) ((isort byK L).map fun q => V.ref q.1) := rep_sorted fun q hq => x2.sqT s1 (k2 q (from_ q (isort_mem.mp hq)))
    rw [← e1] at rl
    exact newX fr s2 rl hd fun v H' m' x => q v H' m' (x1.trans (x2.trans x))
  · rw [if_neg hk] at hf; cases hf
/-! ### comprehensions -/
def mCompX (fr : Bool) (vs : List Nat) (it : Im) (g : Gm) (t : Tx) (elt : Ex) : Ex := fun ρ S => (it ρ S).bind fun p => (compL g p.2.1 t elt (wipeE ρ vs) p.1 [] p.2.2).bind fun q => some (mkL fr q.1 q.2)
theorem comp_useX (fr : Bool) {vs : List Nat} {fi : Im} {gm : Gm} {tt : Tx} {fe : Ex} {σ : L2.St} {H : Hp} {Q R : VK} {K : PySem.W.Frag} (hR : ∀ v H, fzQ Q v H → R v H) (h : tE K (mCompX fr vs fi gm tt fe) σ H Q) : tLc (tI K fi) (tGm vs K gm) (tT K tt) (tE K fe) vs σ H R := by
  obtain ⟨ρ, S, m, d, S', er, sr, hf, q⟩ := h
  obtain ⟨p, h1, hf⟩ := obind hf
  obtain ⟨pf, h2, hf⟩ := obind hf
  cases hf
  refine ⟨ρ, S, m, p.1, p.2.1, p.2.2, er, sr, h1, fun J H1 m1 x1 s1 wk Dd hD => ?_⟩
  have hDm : Dd ∉ m1 := s1.out hD
  have e1 := er.mono sr x1
  refine ⟨fun i c H' => ∃ acc vs' S' m', StR K H' m' S' ∧ Ext H1 m1 H' m' ∧ H' Dd = some (.lst vs') ∧ RepL K H' m' acc vs' ∧ Dd ∉ m' ∧ i + c = p.1.length ∧ compL gm p.2.1 tt fe (wipeE ρ vs) (p.1.drop i) acc S' = some pf,
    ⟨p.1.length, [], [], p.2.2, m1, s1.new1 hD, Ext.new1 hD, upd_same, .nil, hDm, by omega, h2⟩, fun i c H' hW => ?_⟩
  obtain ⟨acc, vs', S', m', sr', x', hd', ra, hn', hl, hf'⟩ := hW
  by_cases hlt : i < p.1.length
  · rw [List.drop_eq_getElem_cons hlt] at hf'
    have hck : p.2.1 S' = true := by
      by_cases hck : p.2.1 S' = true
      · exact hck
      · simp only [compL, if_neg hck] at hf'; cases hf'
    simp only [compL, if_pos hck] at hf'
    obtain ⟨ρ1, g1, hf'⟩ := obind hf'
    obtain ⟨bb, b1, hf'⟩ := obind hf'
    obtain ⟨hgo, hyl⟩ := (wk H' m' S' i x' sr' hck).1 _ (List.getElem?_eq_getElem hlt)
    refine .inr ⟨hgo, fun H2 => ∃ acc2 vs2 S2 m2, StR K H2 m2 S2 ∧ Ext H1 m1 H2 m2 ∧ H2 Dd = some (.lst vs2) ∧ RepL K H2 m2 acc2 vs2 ∧ Dd ∉ m2 ∧ compL gm p.2.1 tt fe (wipeE ρ vs) (p.1.drop (i + 1)) acc2 S2 = some pf, fun H2 hN => ?_, fun x H2 y => ?_⟩
    · obtain ⟨acc2, vs2, S2, m2, a1, a2, a3, a4, a5, a6⟩ := hN
      exact ⟨c - 1, by omega, acc2, vs2, S2, m2, a1, a2, a3, a4, a5, by omega, a6⟩
    · obtain ⟨m2, x2, s2, r2⟩ := hyl x H2 y
      have out : ∀ {Ha Hb : Hp} {ma mb : List Addr}, Ha Dd = some (.lst vs') → Dd ∉ ma → Ext Ha ma Hb mb → Hb Dd = some (.lst vs') ∧ Dd ∉ mb := fun {Ha Hb ma mb} h1 h2 z => ⟨z.keep Dd _ h1 h2, fun hm => by
        rw [z.new Dd hm h2] at h1; cases h1⟩
      obtain ⟨d2, n2⟩ := out hd' hn' x2
      have ew : EnvR K H2 m2 (wipeE ρ vs) (wipe σ vs) := wipeE_rep ((e1.mono s1 x').mono sr' x2) vs
      refine ⟨wipeE ρ vs, m2, S', _, ρ1, ew, s2, r2, g1, fun σ3 e3 w3 => ⟨?_, ρ1, S', m2, bb.1, bb.2, e3, s2, b1, fun H4 m4 x4 s4 => ?_⟩⟩
      · rw [w3]
        refine List.ext_getElem? fun j => ?_
        rw [wipe_get, wipe_get]
        by_cases hj : j ∈ vs
        · rw [if_pos hj, if_pos hj]
          cases σ[j]? <;> rfl
        · rw [if_neg hj]
      · obtain ⟨d4, n4⟩ := out d2 n2 x4
        have xx := (x'.trans x2).trans x4
        cases hb : bb.1 with
        | false =>
          rw [hb] at hf'
          exact iteF ⟨acc, vs', bb.2, m4, s4, xx, d4, (ra.mono sr' x2).mono s2 x4, n4, hf'⟩
        | true =>
          rw [hb] at hf'
          obtain ⟨yy, y1, hf'⟩ := obind hf'
          refine iteT ⟨ρ1, bb.2, m4, yy.1, yy.2, e3.mono s2 x4, s4, y1, fun v H5 m5 x5 s5 r5 => ?_⟩
          obtain ⟨d5, n5⟩ := out d4 n4 x5
          by_cases hz : acc.length < sizeLine
          · rw [if_pos hz] at hf'
            have ra5 := ((ra.mono sr' x2).mono s2 x4).mono s4 x5
            have xx5 := xx.trans x5
            refine ⟨vs', d5, by rw [← ra.length]; exact hz, acc ++ [yy.1], _, yy.2, m5, s5.off d5 (flex_lst _) n5, ⟨xx5.pre, fun b ob hb1 hb2 => ?_, xx5.new⟩, upd_same, ?_, n5, hf'⟩
            · rw [upd_ne (ne_of_none hb1 hD)]
              exact xx5.keep b ob hb1 hb2
            · exact (ra5.app (.cons r5 .nil)).off d5 (flex_lst _)
          · rw [if_neg hz] at hf'; cases hf'
  · rw [List.drop_eq_nil_of_le (by omega)] at hf'
    have hck : p.2.1 S' = true := by
      by_cases hck : p.2.1 S' = true
      · exact hck
      · simp only [compL, if_neg hck] at hf'; cases hf'
    simp only [compL, if_pos hck] at hf'
    cases hf'
    refine .inl ⟨(wk H' m' S' i x' sr' hck).2 (by omega), hR _ _ ?_⟩
    have xf : Ext H1 m1 H' m' := x'
    cases fr with
    | true =>
      refine .inr ⟨Dd, vs', rfl, hd', fun od => ?_⟩
      refine q _ (upd H' Dd (.frz od (.lst vs'))) m' (x1.trans ⟨x'.pre, fun b ob hb1 hb2 => ?_, x'.new⟩) (sr'.off hd' (flex_lst _) hn') (.rol (.inl ⟨od, upd_same⟩) (ra.off hd' (flex_lst _)))
      rw [upd_ne (ne_of_none hb1 hD)]
      exact x'.keep b ob hb1 hb2
    | false =>
      refine .inl ?_
      have hpre : ∀ (n : Nat) (a : Addr), m'[n]? = some a → (m' ++ [Dd])[n]? = some a := fun n a e => by rw [List.getElem?_append_left (List.getElem?_eq_some_iff.mp e).1]; exact e
      have xf : Ext H1 m1 H' (m' ++ [Dd]) := ⟨fun n a e => hpre n a (x'.pre n a e), x'.keep, fun a ha hna => by
        rcases List.mem_append.mp ha with z | z
        · exact x'.new a z hna
        · rw [List.mem_singleton.mp z]; exact hD⟩
      refine q _ H' (m' ++ [Dd]) (x1.trans xf) (sr'.adopt hn' ⟨vs', hd', ra⟩) (.loc ?_)
      rw [← sr'.len, List.getElem?_concat_length]
theorem de_compX (fr : Bool) {elt tg iter : Expr} {ifs : List Expr} {scope : Scope} (own : List (Str × Nat)) {fi : Im} {gm : Gm} {tt : Tx} {fe : Ex} (vs : List Nat) (hv : own.map (·.2) = vs) (hc : X.calm = true) (hN : X.N.Nodup) (hi : DI X tg iter fi) (ok : blkC X.N X.env.scope scope own = true)
    (hg : ∀ (s : Shared) (H : Hp) (C : Addr) (cl : List (Str × Addr)) (fp : List Addr), DG (X.blk s H scope (compEnvC scope cl C X.env) fp) vs tg gm) (ht : ∀ (s : Shared) (H : Hp) (C : Addr) (cl : List (Str × Addr)) (fp : List Addr), DTs (X.blk s H scope (compEnvC scope cl C X.env) fp) ifs tt)
    (he : ∀ (s : Shared) (H : Hp) (C : Addr) (cl : List (Str × Addr)) (fp : List Addr), DE (X.blk s H scope (compEnvC scope cl C X.env) fp) elt fe) (hs : ∀ x, foldedSetIterable iter X.env x = pure x := by intro _; rfl) :
    DE X (.ListComp elt [⟨tg, iter, ifs, 0⟩] scope pos) (mCompX fr vs fi gm tt fe) := by
  subst hv
  exact pew (pe_fz (pe_lc hc hN hi (blkOk_by ok) hg ht he hs)) fun σ H Q h => comp_useX fr (fun _ _ z => z) h
theorem ds_compX (fr : Bool) (i : Nat) {y : Str} {py spos : Pos} {elt tg iter : Expr} {ifs : List Expr} {scope : Scope} (own : List (Str × Nat)) {fi : Im} {gm : Gm} {tt : Tx} {fe : Ex} (vs : List Nat) (hv : own.map (·.2) = vs) (hc : X.calm = true) (hN : X.N.Nodup) (hy : X.N[i]? = some y) (hyl : X.env.scope.names.lookup y = some .local)
    (hsw : swapsWith (.ListComp elt [⟨tg, iter, ifs, 0⟩] scope pos) (some (.Name y py)) spos.line X.env = pure true) (hi : DI X tg iter fi) (ok : blkC X.N X.env.scope scope own = true)
    (hg : ∀ (s : Shared) (H : Hp) (C : Addr) (cl : List (Str × Addr)) (fp : List Addr), DG (X.blk s H scope (compEnvC scope cl C X.env) fp) vs tg gm) (ht : ∀ (s : Shared) (H : Hp) (C : Addr) (cl : List (Str × Addr)) (fp : List Addr), DTs (X.blk s H scope (compEnvC scope cl C X.env) fp) ifs tt)
    (he : ∀ (s : Shared) (H : Hp) (C : Addr) (cl : List (Str × Addr)) (fp : List Addr), DE (X.blk s H scope (compEnvC scope cl C X.env) fp) elt fe) (hs : ∀ x, foldedSetIterable iter X.env x = pure x := by intro _; rfl) :
    DS X (.Assign [.Name y py] (.ListComp elt [⟨tg, iter, ifs, 0⟩] scope pos) spos) (mAsg (mCompX fr vs fi gm tt fe) (gN i)) := by
  subst hv
  refine psw (ps_fz i (ps_setLc (i := i) (wi := tI X.K fi) (g := tGm (own.map (·.2)) X.K gm) (tt := tT X.K tt) (te := tE X.K fe) hc hN hy hyl hsw hi (blkOk_by ok) hg ht he hs)) fun E σ H h => ?_
  obtain ⟨ρ, S, m, o, er, sr, hf, q⟩ := h
  obtain ⟨p, h1, hf⟩ := obind hf
  cases hf
  refine comp_useX fr (Q := fun x H1 => gName i x σ H1 E.nx) (fun x H1 hq => ?_) ⟨ρ, S, m, p.1, p.2, er, sr, h1, fun v H1 m1 x1 s1 r1 => q _ H1 m1 x1 s1 ((er.mono sr x1).set i (show RepO X.K H1 m1 (some p.1) (some v) from r1))⟩
  rcases hq with hq | ⟨a, vs, rfl, e, hq⟩
  · exact .inl hq
  · exact .inr ⟨a, vs, e, hq⟩

end
end DD

/-! A def's own cells are forgotten behind its call; a new list that it returns is a tree from then on. -/
namespace DD
open PySem PySem.Spec PyProof.Rows L2
mutual
def scD (n : Nat) : D → Bool
  | .loc k => decide (k < n)
  | .tup ds => scL n ds
  | .rol ds => scL n ds
  | .rod _ ds => scL n ds
  | _ => true
def scL (n : Nat) : List D → Bool
  | [] => true
  | d :: ds => scD n d && scL n ds
end
def scC (n : Nat) : Cell → Bool
  | .lst ds => scL n ds
  | .dic kvs => kvs.all fun p => scD n p.2
@[simp] theorem scD_non {n : Nat} : scD n .non = true := by simp [scD]
@[simp] theorem scD_bl {n : Nat} {b : Bool} : scD n (.bl b) = true := by simp [scD]
@[simp] theorem scD_int {n : Nat} {i : Int} : scD n (.int i) = true := by simp [scD]
@[simp] theorem scD_str {n : Nat} {x : Str} : scD n (.str x) = true := by simp [scD]
@[simp] theorem scD_tup {n : Nat} {ds : List D} : scD n (.tup ds) = scL n ds := by simp [scD]
@[simp] theorem scD_rol {n : Nat} {ds : List D} : scD n (.rol ds) = scL n ds := by simp [scD]
@[simp] theorem scD_rod {n : Nat} {ks : List Key} {ds : List D} : scD n (.rod ks ds) = scL n ds := by simp [scD]
@[simp] theorem scD_loc {n k : Nat} : scD n (.loc k) = decide (k < n) := by simp [scD]
theorem scL_all {n : Nat} : ∀ {ds : List D}, scL n ds = true ↔ ∀ d ∈ ds, scD n d = true
  | [] => by simp [scL]
  | d :: ds => by simp [scL, scL_all (ds := ds)]
@[simp] theorem scL_nil {n : Nat} : scL n [] = true := by simp [scL]
@[simp] theorem scL_cons {n : Nat} {d : D} {ds : List D} : scL n (d :: ds) = (scD n d && scL n ds) := by simp [scL]
@[simp] theorem scL_app {n : Nat} {ds es : List D} : scL n (ds ++ es) = (scL n ds && scL n es) := by
  induction ds with
  | nil => simp
  | cons d ds ih => simp [ih, Bool.and_assoc]
mutual
theorem scD_mono {n k : Nat} (h : n ≤ k) : ∀ d : D, scD n d = true → scD k d = true
  | .loc j, q => by simp at q ⊢; omega
  | .tup ds, q => by simp at q ⊢; exact scL_mono h ds q
  | .rol ds, q => by simp at q ⊢; exact scL_mono h ds q
  | .rod _ ds, q => by simp at q ⊢; exact scL_mono h ds q
  | .non, _ => by simp
  | .bl _, _ => by simp
  | .int _, _ => by simp
  | .str _, _ => by simp
theorem scL_mono {n k : Nat} (h : n ≤ k) : ∀ ds : List D, scL n ds = true → scL k ds = true
  | [], _ => by simp
  | d :: ds, q => by
    simp at q ⊢
    exact ⟨scD_mono h d q.1, scL_mono h ds q.2⟩
end
section
variable {K : PySem.W.Frag} {H H1 H2 : Hp} {m m1 m2 : List Addr} {S S1 S2 : Sto}
mutual
/-- what stands in a store that is borne speaks of its cells alone -/
theorem Rep.sc : ∀ {d : D} {v : V}, Rep K H m d v → scD m.length d = true
  | _, _, .non => by simp
  | _, _, .bl b => by simp
  | _, _, .int i => by simp
  | _, _, .str x => by simp
  | _, _, .tup _ r => by simp; exact RepL.sc r
  | _, _, .rol _ r => by simp; exact RepL.sc r
  | _, _, .rod _ _ r => by simp; exact RepL.sc r
  | _, _, .loc h => by simp; exact (List.getElem?_eq_some_iff.mp h).1
theorem RepL.sc : ∀ {ds : List D} {vs : List V}, RepL K H m ds vs → scL m.length ds = true
  | _, _, .nil => by simp
  | _, _, .cons r t => by simp; exact ⟨Rep.sc r, RepL.sc t⟩
end
mutual
theorem Rep.cut (pre : ∀ (n : Nat) (a : Addr), m1[n]? = some a → m2[n]? = some a) : ∀ {d : D} {v : V}, scD m1.length d = true → Rep K H m2 d v → Rep K H m1 d v
  | _, _, _, .non => .non
  | _, _, _, .bl b => .bl b
  | _, _, _, .int i => .int i
  | _, _, _, .str x => .str x
  | _, _, q, .tup h r => .tup h (RepL.cut pre (by simpa using q) r)
  | _, _, q, .rol h r => .rol h (RepL.cut pre (by simpa using q) r)
  | _, _, q, .rod h e r => .rod h e (RepL.cut pre (by simpa using q) r)
  | .loc n, _, q, .loc h => .loc (by
    have hn : n < m1.length := by simpa using q
    have e := pre n _ (List.getElem?_eq_getElem hn)
    rw [h] at e
    rw [List.getElem?_eq_getElem hn]
    exact e.symm)
theorem RepL.cut (pre : ∀ (n : Nat) (a : Addr), m1[n]? = some a → m2[n]? = some a) : ∀ {ds : List D} {vs : List V}, scL m1.length ds = true → RepL K H m2 ds vs → RepL K H m1 ds vs
  | _, _, _, .nil => .nil
  | _, _, q, .cons r t => by
    simp at q
    exact .cons (Rep.cut pre q.1 r) (RepL.cut pre q.2 t)
end
theorem CellOk.sc {a : Addr} {c : Cell} (h : CellOk K H m a c) : scC m.length c = true := by
  cases c with
  | lst ds => obtain ⟨vs, _, r⟩ := h; exact r.sc
  | dic kvs =>
    obtain ⟨ks, e, r⟩ := h
    clear e
    induction r with
    | nil => rfl
    | cons p _ ih =>
      show (scD _ _ && List.all _ _) = true
      rw [Bool.and_eq_true]
      exact ⟨p.2.sc, ih⟩
theorem CellOk.cut (pre : ∀ (n : Nat) (a : Addr), m1[n]? = some a → m2[n]? = some a) {a : Addr} {c : Cell} (hs : scC m1.length c = true) (h : CellOk K H m2 a c) : CellOk K H m1 a c := by
  cases c with
  | lst ds => obtain ⟨vs, e, r⟩ := h; exact ⟨vs, e, r.cut pre hs⟩
  | dic kvs =>
    obtain ⟨ks, e, r⟩ := h
    refine ⟨ks, e, ?_⟩
    clear e
    induction r with
    | nil => exact .nil
    | cons p _ ih =>
      have hs' : (scD _ _ && List.all _ _) = true := hs
      rw [Bool.and_eq_true] at hs'
      exact .cons ⟨p.1, p.2.cut pre hs'.1⟩ (ih hs'.2)
end
instance : DecidableEq Cell := fun a b => match a, b with
  | .lst x, .lst y => if h : x = y then .isTrue (by rw [h]) else .isFalse (fun q => h (Cell.lst.inj q))
  | .dic x, .dic y => if h : x = y then .isTrue (by rw [h]) else .isFalse (fun q => h (Cell.dic.inj q))
  | .lst _, .dic _ => .isFalse (fun q => by cases q)
  | .dic _, .lst _ => .isFalse (fun q => by cases q)
/-- the old cells are as they were, or speak of old ones alone -/
def gcB (n : Nat) : Sto → Sto → Bool
  | [], _ => true
  | c :: S, c1 :: S1 => (decide (c1 = c) || scC n c1) && gcB n S S1
  | _ :: _, [] => false
theorem gcB_len {n : Nat} : ∀ {S S1 : Sto}, gcB n S S1 = true → S.length ≤ S1.length
  | [], _, _ => by simp
  | c :: S, [], h => by simp [gcB] at h
  | c :: S, c1 :: S1, h => by
    simp [gcB] at h
    have := gcB_len h.2
    simp; omega
theorem gcB_get {n : Nat} : ∀ {S S1 : Sto} {i : Nat} {c : Cell}, gcB n S S1 = true → i < S.length → S1[i]? = some c → S[i]? = some c ∨ scC n c = true
  | [], _, _, _, _, h, _ => by simp at h
  | c0 :: S, [], _, _, h, _, _ => by simp [gcB] at h
  | c0 :: S, c1 :: S1, 0, c, h, _, e => by
    simp [gcB] at h
    simp at e
    subst e
    exact h.1.imp (fun q => by rw [q]; rfl) id
  | c0 :: S, c1 :: S1, i + 1, c, h, hi, e => by
    simp [gcB] at h
    simpa using gcB_get h.2 (by simpa using hi) (by simpa using e)
theorem gcB_mk {n : Nat} : ∀ {S S1 : Sto}, S.length ≤ S1.length → (∀ i c, i < S.length → S1[i]? = some c → S[i]? = some c ∨ scC n c = true) → gcB n S S1 = true
  | [], _, _, _ => by simp [gcB]
  | c :: S, [], h, _ => by simp at h
  | c :: S, c1 :: S1, h, q => by
    simp [gcB]
    refine ⟨?_, gcB_mk (by simpa using h) fun i c hi e => by simpa using q (i + 1) c (by simpa using hi) (by simpa using e)⟩
    have := q 0 c1 (by simp) rfl
    exact this.imp (fun z => by simpa using z.symm) id
@[simp] theorem gcB_self {n : Nat} {S T : Sto} : gcB n S (S ++ T) = true := gcB_mk (by simp) fun i c hi e => .inl (by rwa [List.getElem?_append_left hi] at e)
@[simp] theorem gcB_self0 {n : Nat} {S : Sto} : gcB n S S = true := by simpa using gcB_self (n := n) (S := S) (T := [])
def zD (n : Nat) (S1 : Sto) (d : D) : Option D := match d with
  | .loc k => if k < n then some (.loc k) else match S1[k]? with
    | some (.lst ds) => if scL n ds = true then some (.rol ds) else none
    | _ => none
  | d => if scD n d = true then some d else none
def gcZ (g : Fn) : Fn := fun ds S => (g ds S).bind fun p => (zD S.length p.2 p.1).bind fun d => if gcB S.length S p.2 = true then some (d, p.2.take S.length) else none
theorem gcZ_none {g : Fn} {ds : List D} {S : Sto} (h : gcZ g ds S ≠ none) : g ds S ≠ none := fun q => h (by unfold gcZ; rw [q]; rfl)
section
variable {X : Cx} {k : Nat} {e : Expr} {es : List Expr} {fa : Ex} {ga gk : As} {pos p : Pos} {x : Str}
theorem gc_st {K : PySem.W.Frag} {H1 H2 : Hp} {m1 m2 : List Addr} {S S1 : Sto} (s1 : StR K H1 m1 S) (x : Ext H1 m1 H2 m2) (s2 : StR K H2 m2 S1) (g : gcB S.length S S1 = true) : StR K H2 m1 (S1.take S.length) := by
  refine ⟨by rw [s1.len, List.length_take]; have := gcB_len g; omega, s1.nd, fun n c a e1 e2 => ?_⟩
  have hn : n < m1.length := (List.getElem?_eq_some_iff.mp e2).1
  have hs : n < S.length := by rw [← s1.len]; exact hn
  rw [List.getElem?_take_of_lt hs] at e1
  refine (s2.ok n c a e1 (x.pre n a e2)).cut x.pre ?_
  rcases gcB_get g hs e1 with q | q
  · exact (s1.ok n c a q e2).sc
  · rw [s1.len]; exact q
theorem gc_use {K : PySem.W.Frag} {g : Fn} {vs : List V} {H1 : Hp} {Q : VK} {ds : List D} {m1 : List Addr} {S S' : Sto} {d' : D} (r1 : RepL K H1 m1 ds vs) (s1 : StR K H1 m1 S) (hg : gcZ g ds S = some (d', S'))
    (q : ∀ v H' m', Ext H1 m1 H' m' → StR K H' m' S' → Rep K H' m' d' v → Q v H') : rCall K g vs H1 (fzQ Q) := by
  unfold gcZ at hg
  obtain ⟨⟨d, S1⟩, h1, hg⟩ := obind hg
  obtain ⟨d2, h2, hg⟩ := obind hg
  simp only at h2 hg
  by_cases hb : gcB S.length S S1 = true
  · rw [if_pos hb] at hg
    cases hg
    refine ⟨ds, m1, S, d, S1, r1, s1, h1, fun v H2 m2 x2 s2 r2 => ?_⟩
    have x3 : Ext H1 m1 H2 m1 := ⟨fun _ _ z => z, x2.keep, fun a h h' => absurd h h'⟩
    have s3 := gc_st s1 x2 s2 hb
    have plain : scD S.length d = true → d = d' → fzQ Q v H2 := fun hs e => by
      subst e
      exact .inl (q v H2 m1 x3 s3 (r2.cut x2.pre (by rw [s1.len]; exact hs)))
    cases d with
    | loc j =>
      simp only [zD] at h2
      by_cases hj : j < S.length
      · rw [if_pos hj] at h2
        cases h2
        exact plain (by simpa using hj) rfl
      · rw [if_neg hj] at h2
        cases hc : S1[j]? with
        | none => rw [hc] at h2; cases h2
        | some c =>
          rw [hc] at h2
          cases c with
          | dic _ => cases h2
          | lst es =>
            simp only at h2
            by_cases hs : scL S.length es = true
            · rw [if_pos hs] at h2
              cases h2
              cases r2 with
              | loc hm =>
                obtain ⟨vs', e, rl⟩ := s2.ok j _ _ hc hm
                refine .inr ⟨_, vs', rfl, e, fun od => ?_⟩
                have hn : ∀ a, m2[j]? = some a → a ∉ m1 := fun a ha hin => by
                  obtain ⟨i, hi⟩ := List.mem_iff_getElem?.mp hin
                  have := nd_ix s2.nd ha (x2.pre i a hi)
                  have hl := (List.getElem?_eq_some_iff.mp hi).1
                  rw [s1.len] at hl
                  omega
                refine q _ (upd H2 _ (.frz od (.lst vs'))) m1 ⟨fun _ _ z => z, fun b ob hb1 hb2 => ?_, fun a h h' => absurd h h'⟩ (s3.off e (flex_lst _) (hn _ hm)) (.rol (.inl ⟨od, upd_same⟩) ((rl.cut x2.pre (by rw [s1.len]; exact hs)).off e (flex_lst _)))
                rw [upd_ne fun z => ?_]
                · exact x2.keep b ob hb1 hb2
                · rw [z] at hb1 hb2
                  have := x2.new _ (List.mem_iff_getElem?.mpr ⟨j, hm⟩) hb2
                  rw [hb1] at this; cases this
            · rw [if_neg hs] at h2; cases h2
    | tup _ => 
      simp only [zD] at h2
      split at h2
      · rename_i hs; cases h2; exact plain hs rfl
      · cases h2
    | rod _ _ => 
      simp only [zD] at h2
      split at h2
      · rename_i hs; cases h2; exact plain hs rfl
      · cases h2
    | rol _ => 
      simp only [zD] at h2
      split at h2
      · rename_i hs; cases h2; exact plain hs rfl
      · cases h2
    | non => simp [zD] at h2; exact plain (by simp) h2
    | bl _ => simp [zD] at h2; exact plain (by simp) h2
    | int _ => simp [zD] at h2; exact plain (by simp) h2
    | str _ => simp [zD] at h2; exact plain (by simp) h2
  · rw [if_neg hb] at hg; cases hg
theorem de_callZ {f : Addr} {fd : FuncData} {ps : List Str} {g : Fn} (F : FnG X.prog X.w X.K X.mg X.base k f fd ps g) (hr : RG k X) (hg : Gl X x) (hm : X.mg x = some (.ref f)) (hk : PySem.W.keepIn X.K (.ref f) = true) (hb : Binds X.K fd ps [])
    (ha : DA X (e :: es) ga) (hdb : (x == ("__debug__" : Str)) = false := by decide) (he : starEach (e :: es) X.env = (false, eval e X.env) :: starEach es X.env := by rfl) (hpl : (backTo pos (starEach es X.env)).any (·.1) = false := by rfl) :
    DE X (.Call (.Name x p) (e :: es) [] pos) (mCall (gcZ g) ga) := pew (pe_fz (pe_g F hr hg hm hk hb ha.pa hdb he hpl)) fun σ H Q h => by
  obtain ⟨ρ, S, m, d', S', E, st, hf, q⟩ := h
  obtain ⟨p, h1, hf⟩ := obind hf
  exact ⟨ρ, S, m, p.1, p.2, E, st, h1, fun vs H1 m1 x1 s1 r1 => gc_use r1 s1 hf fun v H2 m2 x2 s2 r2 => q v H2 m2 (x1.trans x2) s2 r2⟩
theorem de_callKZ0 {f : Addr} {fd : FuncData} {ps ks : List Str} {perm : List Nat} {kws : List Keyword} {g : Fn} (F : FnG X.prog X.w X.K X.mg X.base k f fd ps g) (hr : RG k X) (hg : Gl X x) (hm : X.mg x = some (.ref f)) (hk : PySem.W.keepIn X.K (.ref f) = true)
    (hb : KwOk X.K fd ps ks 0 perm) (ha : DK X kws ga) (hl : kws.length = ks.length := by rfl) (hall : (backToKw pos (keywordEach kws X.env)).all (·.1.isSome) = true := by rfl) (hks : (backToKw pos (keywordEach kws X.env)).filterMap (·.1) = ks := by rfl)
    (hdb : (x == ("__debug__" : Str)) = false := by decide) (hpl : ((backTo pos (starEach [] X.env)).any (·.1) || (backToKw pos (keywordEach kws X.env)).any (·.1.isNone)) = false := by rfl) :
    DE X (.Call (.Name x p) [] kws pos) (mCallK (gcZ g) perm mNil ga) := pew (pe_fz (pe_gk0 F hr hg hm hk hb ha.pk hall hks hdb hpl)) fun σ H Q h => by
  obtain ⟨ρ, S, m, d', S', E, st, hf, q⟩ := h
  obtain ⟨p, h1, hf⟩ := obind hf
  cases h1
  obtain ⟨p, h1, hf⟩ := obind hf
  have hz : p.1.length = ks.length := (ha.len _ _ _ _ h1).trans hl
  exact ⟨ρ, S, m, p.1, p.2, E, st, h1, fun vs H1 m1 x1 s1 r1 => ⟨r1.length.symm.trans hz, gc_use (repL_perm r1 perm fun i hi => by rw [hz]; exact hb.lt i hi) s1 hf fun v H2 m2 x2 s2 r2 => q v H2 m2 (x1.trans x2) s2 r2⟩⟩
theorem de_callKZ {n : Nat} {f : Addr} {fd : FuncData} {ps ks : List Str} {perm : List Nat} {kws : List Keyword} {g : Fn} (F : FnG X.prog X.w X.K X.mg X.base k f fd ps g) (hr : RG k X) (hg : Gl X x) (hm : X.mg x = some (.ref f)) (hk : PySem.W.keepIn X.K (.ref f) = true)
    (hb : KwOk X.K fd ps ks n perm) (ha : DA X (e :: es) ga) (hak : DK X kws gk) (hn : (e :: es).length = n := by rfl) (hl : kws.length = ks.length := by rfl) (hall : (backToKw pos (keywordEach kws X.env)).all (·.1.isSome) = true := by rfl) (hks : (backToKw pos (keywordEach kws X.env)).filterMap (·.1) = ks := by rfl)
    (hdb : (x == ("__debug__" : Str)) = false := by decide) (he : starEach (e :: es) X.env = (false, eval e X.env) :: starEach es X.env := by rfl) (hpl : ((backTo pos (starEach (e :: es) X.env)).any (·.1) || (backToKw pos (keywordEach kws X.env)).any (·.1.isNone)) = false := by rfl) :
    DE X (.Call (.Name x p) (e :: es) kws pos) (mCallK (gcZ g) perm ga gk) := pew (pe_fz (pe_gk F hr hg hm hk hb ha.pa hak.pk hall hks hdb he hpl)) fun σ H Q h => by
  obtain ⟨ρ, S, m, d', S', E, st, hf, q⟩ := h
  obtain ⟨p0, h0, hf⟩ := obind hf
  obtain ⟨p, h1, hf⟩ := obind hf
  have hz : p.1.length = ks.length := (hak.len _ _ _ _ h1).trans hl
  refine ⟨ρ, S, m, p0.1, p0.2, E, st, h0, fun vs H1 m1 x1 s1 r1 => ⟨ρ, p0.2, m1, p.1, p.2, E.mono st x1, s1, h1, fun zs H2 m2 x2 s2 r2 => ?_⟩⟩
  exact ⟨r1.length.symm.trans ((ha.len _ _ _ _ h0).trans hn), r2.length.symm.trans hz, gc_use ((r1.mono s1 x2).app (repL_perm r2 perm fun i hi => by rw [hz]; exact hb.lt i hi)) s2 hf fun v H3 m3 x3 s3 r3 => q v H3 m3 ((x1.trans x2).trans x3) s3 r3⟩
variable {j : Nat} {st : Stmt} {ps ks : List Str} {g : Fn} {kws : List Keyword}
theorem de_z (F : Kn X.prog X.w X.K X.mg X.base k x st ps g) (hr : RG j X) (hkj : k ≤ j) (hg : Gl X x) (ha : DA X (e :: es) ga) (hdb : (x == ("__debug__" : Str)) = false := by decide) (he : starEach (e :: es) X.env = (false, eval e X.env) :: starEach es X.env := by rfl)
    (hpl : (backTo pos (starEach es X.env)).any (·.1) = false := by rfl) : DE X (.Call (.Name x p) (e :: es) [] pos) (mCall (gcZ g) ga) := by
  obtain ⟨f, fd, h1, h2, h3, h4⟩ := F.ex
  exact de_callZ h1 (hr.mono hkj) hg h2 h3.kp h4 ha hdb he hpl
theorem de_zz0 {perm : List Nat} (F : Kn X.prog X.w X.K X.mg X.base k x st ps g) (hr : RG j X) (hkj : k ≤ j) (hg : Gl X x) (ks : List Str) (hp : ∀ i ∈ perm, i < ks.length)
    (h : ∀ (kV doc pm : Value) (an : Option Addr) (cdv ct : Value) (us ws : List Value), us.length = 0 → ws.length = ks.length → bindArgs (PySem.W.fnOf x x (defArgs st) (defBody st) (defScope st) .none kV doc pm an cdv ct) ⟨us, ks.zip ws⟩ = pure (ps.zip (us ++ perm.map fun i => ws.getD i .none)))
    (ha : DK X kws gk) (hl : kws.length = ks.length := by rfl) (hall : (backToKw pos (keywordEach kws X.env)).all (·.1.isSome) = true := by rfl) (hks : (backToKw pos (keywordEach kws X.env)).filterMap (·.1) = ks := by rfl)
    (hdb : (x == ("__debug__" : Str)) = false := by decide) (hpl : ((backTo pos (starEach [] X.env)).any (·.1) || (backToKw pos (keywordEach kws X.env)).any (·.1.isNone)) = false := by rfl) :
    DE X (.Call (.Name x p) [] kws pos) (mCallK (gcZ g) perm mNil gk) := by
  obtain ⟨f, fd, h1, h2, h3, h4⟩ := F.ex
  exact de_callKZ0 h1 (hr.mono hkj) hg h2 h3.kp (kw_of h3 hp h) ha hl hall hks hdb hpl
theorem de_zz {perm : List Nat} {n : Nat} (F : Kn X.prog X.w X.K X.mg X.base k x st ps g) (hr : RG j X) (hkj : k ≤ j) (hg : Gl X x) (n : Nat) (ks : List Str) (hp : ∀ i ∈ perm, i < ks.length)
    (h : ∀ (kV doc pm : Value) (an : Option Addr) (cdv ct : Value) (us ws : List Value), us.length = n → ws.length = ks.length → bindArgs (PySem.W.fnOf x x (defArgs st) (defBody st) (defScope st) .none kV doc pm an cdv ct) ⟨us, ks.zip ws⟩ = pure (ps.zip (us ++ perm.map fun i => ws.getD i .none)))
    (ha : DA X (e :: es) ga) (hak : DK X kws gk) (hn : (e :: es).length = n := by rfl) (hl : kws.length = ks.length := by rfl) (hall : (backToKw pos (keywordEach kws X.env)).all (·.1.isSome) = true := by rfl) (hks : (backToKw pos (keywordEach kws X.env)).filterMap (·.1) = ks := by rfl)
    (hdb : (x == ("__debug__" : Str)) = false := by decide) (he : starEach (e :: es) X.env = (false, eval e X.env) :: starEach es X.env := by rfl) (hpl : ((backTo pos (starEach (e :: es) X.env)).any (·.1) || (backToKw pos (keywordEach kws X.env)).any (·.1.isNone)) = false := by rfl) :
    DE X (.Call (.Name x p) (e :: es) kws pos) (mCallK (gcZ g) perm ga gk) := by
  obtain ⟨f, fd, h1, h2, h3, h4⟩ := F.ex
  exact de_callKZ h1 (hr.mono hkj) hg h2 h3.kp (kw_of h3 hp h) ha hak hn hl hall hks hdb he hpl
end
end DD

/-! What must hold for a worth upon data to come out so: one rule a form. -/
namespace DD
open PySem L2

def wO {α : Type} (o : Option α) (Q : α → Prop) : Prop := ∃ a, o = some a ∧ Q a
section
variable {α β : Type} {o : Option α} {a : α} {Q Q' : α → Prop}
@[simp] theorem wO_some : wO (some a) Q ↔ Q a := ⟨fun ⟨b, e, q⟩ => by cases e; exact q, fun q => ⟨a, rfl, q⟩⟩
@[simp] theorem wO_none : wO (none : Option α) Q ↔ False := ⟨(fun ⟨b, e, q⟩ => by cases e), fun q => q.elim⟩
@[simp] theorem wO_bind {f : α → Option β} {R : β → Prop} : wO (o.bind f) R ↔ wO o fun a => wO (f a) R := by
  cases o with
  | none => simp
  | some a => simp
@[simp] theorem wO_ite {c : Prop} [Decidable c] {x y : Option α} : wO (if c then x else y) Q ↔ (c → wO x Q) ∧ (¬ c → wO y Q) := by
  by_cases h : c
  · simp [h]
  · simp [h]
@[simp] theorem wO_iteN {c : Prop} [Decidable c] {x : Option α} : wO (if c then x else none) Q ↔ c ∧ wO x Q := by
  by_cases h : c
  · simp [h]
  · simp [h]
theorem wO.imp (h : wO o Q) (w : ∀ a, Q a → Q' a) : wO o Q' := let ⟨a, e, q⟩ := h; ⟨a, e, w a q⟩
theorem wO.eq (h : o = some a) (q : Q a) : wO o Q := ⟨a, h, q⟩
end
section
variable {ρ : Env} {S : Sto} {f g : SM} {fa fb fc : Ex} {ga gk : As} {t u : Tx} {Q : Out → Prop} {E : D × Sto → Prop} {A : List D × Sto → Prop} {T : Bool × Sto → Prop}
/-- behind a statement -/
def thenS (g : SM) (Q : Out → Prop) : Out → Prop
  | .nx ρ' S' => wO (g ρ' S') Q
  | o => Q o
@[simp] theorem thenS_nx : thenS g Q (.nx ρ S) ↔ wO (g ρ S) Q := Iff.rfl
@[simp] theorem thenS_rt {d : D} : thenS g Q (.rt d S) ↔ Q (.rt d S) := Iff.rfl
@[simp] theorem thenS_bk : thenS g Q (.bk ρ S) ↔ Q (.bk ρ S) := Iff.rfl
@[simp] theorem thenS_ct : thenS g Q (.ct ρ S) ↔ Q (.ct ρ S) := Iff.rfl
@[simp] theorem w_seq : wO (mSeq f g ρ S) Q ↔ wO (f ρ S) (thenS g Q) := by
  unfold mSeq
  rw [wO_bind]
  refine ⟨fun h => h.imp fun o q => ?_, fun h => h.imp fun o q => ?_⟩
  · cases o <;> first | exact q | (rw [wO_some] at q; exact q)
  · cases o <;> first | exact q | (rw [wO_some]; exact q)
@[simp] theorem w_skip : wO (mSkip ρ S) Q ↔ Q (.nx ρ S) := wO_some
@[simp] theorem w_break : wO (mBreak ρ S) Q ↔ Q (.bk ρ S) := wO_some
@[simp] theorem w_cont : wO (mCont ρ S) Q ↔ Q (.ct ρ S) := wO_some
@[simp] theorem w_ret : wO (mRet fa ρ S) Q ↔ wO (fa ρ S) fun p => Q (.rt p.1 p.2) := by unfold mRet; simp
@[simp] theorem w_retN : wO (mRetN ρ S) Q ↔ Q (.rt .non S) := wO_some
@[simp] theorem w_do : wO (mDo fa ρ S) Q ↔ wO (fa ρ S) fun p => Q (.nx ρ p.2) := by unfold mDo; simp
@[simp] theorem w_ite : wO (mIte t f g ρ S) Q ↔ wO (t ρ S) fun p => (p.1 = true → wO (f ρ p.2) Q) ∧ (p.1 = false → wO (g ρ p.2) Q) := by unfold mIte; simp
@[simp] theorem w_asg {gm : Gm} : wO (mAsg fa gm ρ S) Q ↔ wO (fa ρ S) fun p => wO (gm p.1 ρ) fun ρ' => Q (.nx ρ' p.2) := by unfold mAsg; simp
@[simp] theorem w_gN {i : Nat} {d : D} {R : Env → Prop} : wO (gN i d ρ) R ↔ R (ρ.set i (some d)) := wO_some
@[simp] theorem w_gT {gs : Gs} {ds : List D} {R : Env → Prop} : wO (gT gs (.tup ds) ρ) R ↔ wO (gs ds ρ) R := Iff.rfl
@[simp] theorem w_gsNil {R : Env → Prop} : wO (gsNil [] ρ) R ↔ R ρ := wO_some
@[simp] theorem w_gsCons {gm : Gm} {gs : Gs} {d : D} {ds : List D} {R : Env → Prop} : wO (gsCons gm gs (d :: ds) ρ) R ↔ wO (gm d ρ) fun ρ' => wO (gs ds ρ') R := by unfold gsCons; simp
@[simp] theorem w_par {i j : Nat} : wO (mPar i j ga ρ S) Q ↔ wO (ga ρ S) fun p => wO (match p.1 with | [x, y] => some (Out.nx ((ρ.set i (some x)).set j (some y)) p.2) | _ => none) Q := by unfold mPar; simp only [wO_bind] <;> exact Iff.rfl
@[simp] theorem w_put {fv fd fk : Ex} : wO (mPut fv fd fk ρ S) Q ↔ wO (fv ρ S) fun v => wO (fd ρ v.2) fun d => wO (fk ρ d.2) fun i => wO (match d.1 with
  | .loc n => match i.2[n]? with
    | some (.dic kvs) => (keyOf i.1).bind fun kk => if kvs.length < sizeLine then some (Out.nx ρ (i.2.set n (.dic (putD kvs kk v.1)))) else none
    | _ => none
  | _ => none) Q := by unfold mPut; simp only [wO_bind] <;> exact Iff.rfl
@[simp] theorem w_v {i : Nat} : wO (mV i ρ S) E ↔ ∃ d, ρ[i]? = some (some d) ∧ E (d, S) := by
  unfold mV
  cases h : ρ[i]? with
  | none => simp
  | some o => cases o <;> simp
@[simp] theorem w_c {d : D} : wO (mC d ρ S) E ↔ E (d, S) := wO_some
@[simp] theorem w_nil : wO (mNil ρ S) A ↔ A ([], S) := wO_some
@[simp] theorem w_cons : wO (mCons fa ga ρ S) A ↔ wO (fa ρ S) fun p => wO (ga ρ p.2) fun q => A (p.1 :: q.1, q.2) := by unfold mCons; simp
@[simp] theorem w_call {h : Fn} : wO (mCall h ga ρ S) E ↔ wO (ga ρ S) fun p => wO (h p.1 p.2) E := by unfold mCall; simp
@[simp] theorem w_callK {h : Fn} {perm : List Nat} : wO (mCallK h perm ga gk ρ S) E ↔ wO (ga ρ S) fun p => wO (gk ρ p.2) fun q => wO (h (p.1 ++ perm.map fun i => q.1.getD i .non) q.2) E := by unfold mCallK; simp
@[simp] theorem w_tup : wO (mTup ga ρ S) E ↔ wO (ga ρ S) fun p => E (.tup p.1, p.2) := by unfold mTup; simp
@[simp] theorem w_lst : wO (mLst ga ρ S) E ↔ wO (ga ρ S) fun p => E (.loc p.2.length, p.2 ++ [.lst p.1]) := by unfold mLst; simp
@[simp] theorem w_m2 {h : Op2} : wO (m2 h fa fb ρ S) E ↔ wO (fa ρ S) fun p => wO (fb ρ p.2) fun q => wO (h p.1 q.1 q.2) E := by unfold m2; simp
@[simp] theorem w_b : wO (mB fa ρ S) T ↔ wO (fa ρ S) fun p => ∃ b, p.1 = .bl b ∧ T (b, p.2) := by
  unfold mB
  rw [wO_bind]
  refine ⟨fun h => h.imp fun p q => ?_, fun h => h.imp fun p q => ?_⟩
  · cases hp : p.1 with
    | bl b => rw [hp] at q; rw [wO_some] at q; exact ⟨b, rfl, q⟩
    | _ => rw [hp] at q; rw [wO_none] at q; exact q.elim
  · obtain ⟨b, hb, q⟩ := q
    rw [hb, wO_some]
    exact q
@[simp] theorem w_not : wO (mNot t ρ S) T ↔ wO (t ρ S) fun p => T (!p.1, p.2) := by unfold mNot; simp
@[simp] theorem w_and : wO (mAnd t u ρ S) T ↔ wO (t ρ S) fun p => (p.1 = true → wO (u ρ p.2) T) ∧ (p.1 = false → T (false, p.2)) := by unfold mAnd; simp
@[simp] theorem w_or : wO (mOr t u ρ S) T ↔ wO (t ρ S) fun p => (p.1 = true → T (true, p.2)) ∧ (p.1 = false → wO (u ρ p.2) T) := by unfold mOr; simp
@[simp] theorem w_yes : wO (mYes ρ S) T ↔ T (true, S) := wO_some
@[simp] theorem w_if : wO (mIf t fa fb ρ S) E ↔ wO (t ρ S) fun p => (p.1 = true → wO (fa ρ p.2) E) ∧ (p.1 = false → wO (fb ρ p.2) E) := by unfold mIf; simp
@[simp] theorem w_neg : wO (mNeg fa ρ S) E ↔ wO (fa ρ S) fun p => wO (match p.1 with | .int i => some (D.int (-i), p.2) | _ => none) E := by unfold mNeg; simp only [wO_bind] <;> exact Iff.rfl
@[simp] theorem w_notV : wO (mNotV fa ρ S) E ↔ wO (fa ρ S) fun p => wO (match p.1 with | .bl b => some (D.bl (!b), p.2) | _ => none) E := by unfold mNotV; simp only [wO_bind] <;> exact Iff.rfl
@[simp] theorem w_andV : wO (mAndV fa fb ρ S) E ↔ wO (fa ρ S) fun p => wO (match p.1 with | .bl true => fb ρ p.2 | .bl false => some (D.bl false, p.2) | _ => none) E := by unfold mAndV; simp only [wO_bind] <;> exact Iff.rfl
@[simp] theorem w_orV : wO (mOrV fa fb ρ S) E ↔ wO (fa ρ S) fun p => wO (match p.1 with | .bl false => fb ρ p.2 | .bl true => some (D.bl true, p.2) | _ => none) E := by unfold mOrV; simp only [wO_bind] <;> exact Iff.rfl

abbrev Po0 := Option Int × Sto
@[simp] theorem w_noP {R : Po0 → Prop} : wO (mNoP ρ S) R ↔ R (none, S) := wO_some
@[simp] theorem w_P {R : Po0 → Prop} : wO (mP fa ρ S) R ↔ wO (fa ρ S) fun p => wO (match p.1 with | .int i => some (some i, p.2) | _ => none) R := by unfold mP; simp only [wO_bind] <;> exact Iff.rfl
@[simp] theorem w_sl {lo hi : Po} : wO (mSl fa lo hi ρ S) E ↔ wO (fa ρ S) fun p => wO (lo ρ p.2) fun l => wO (hi ρ l.2) fun u => wO (sliceD p.1 l.1 u.1 u.2) E := by unfold mSl; simp
@[simp] theorem w_meth1 {h : Op2} : wO (mMeth1 h fa ga ρ S) E ↔ wO (fa ρ S) fun p => wO (lstOf p.2 p.1) fun _ => wO (ga ρ p.2) fun q => wO (match q.1 with | [e] => h p.1 e q.2 | _ => none) E := by unfold mMeth1; simp only [wO_bind] <;> exact Iff.rfl
@[simp] theorem w_meth0 {h : D → Sto → Option (D × Sto)} : wO (mMeth0 h fa ρ S) E ↔ wO (fa ρ S) fun p => wO (lstOf p.2 p.1) fun _ => wO (h p.1 p.2) E := by unfold mMeth0; simp
@[simp] theorem w_m1 {h : Op1} : wO (m1 h ga ρ S) E ↔ wO (ga ρ S) fun q => wO (match q.1 with | [e] => h e q.2 | _ => none) E := by unfold m1; simp only [wO_bind] <;> exact Iff.rfl
@[simp] theorem w_dict2 {k1 k2 : Str} : wO (mDict2 k1 k2 fa fb ρ S) E ↔ wO (fa ρ S) fun p => wO (fb ρ p.2) fun q => E (.loc q.2.length, q.2 ++ [.dic [(.inr k1, p.1), (.inr k2, q.1)]]) := by unfold mDict2; simp
@[simp] theorem w_listRg {fr : Rm} : wO (mListRg fr ρ S) E ↔ wO (fr ρ S) fun p => wO (if rngOk p.1 = true ∧ rngOk p.2.1 = true ∧ (p.2.1 - p.1).toNat ≤ 2 ^ 24 then some (D.loc p.2.2.length, p.2.2 ++ [.lst (rngL p.1 (p.2.1 - p.1).toNat)]) else none) E := by unfold mListRg; simp
@[simp] theorem w_rg1 {R : Int × Int × Sto → Prop} : wO (mRg1 fa ρ S) R ↔ wO (fa ρ S) fun p => wO (match p.1 with | .int j => some ((0 : Int), j, p.2) | _ => none) R := by unfold mRg1; simp only [wO_bind] <;> exact Iff.rfl
@[simp] theorem w_rg2 {R : Int × Int × Sto → Prop} : wO (mRg2 fa fb ρ S) R ↔ wO (fa ρ S) fun p => wO (fb ρ p.2) fun q => wO (match p.1, q.1 with | .int i, .int j => some (i, j, q.2) | _, _ => none) R := by unfold mRg2; simp only [wO_bind] <;> exact Iff.rfl
/-- a def -/
def outF (E : D × Sto → Prop) : Out → Prop
  | .rt d S' => E (d, S')
  | .nx _ S' => E (.non, S')
  | _ => False
@[simp] theorem outF_rt {d : D} : outF E (.rt d S) ↔ E (d, S) := Iff.rfl
@[simp] theorem outF_nx : outF E (.nx ρ S) ↔ E (.non, S) := Iff.rfl
@[simp] theorem outF_bk : outF E (.bk ρ S) ↔ False := Iff.rfl
@[simp] theorem outF_ct : outF E (.ct ρ S) ↔ False := Iff.rfl
theorem w_fn {n N : Nat} {body : SM} {ds : List D} (hl : ds.length = n) (h : wO (body (ds.map some ++ List.replicate (N - n) none) S) (outF E)) : wO (mkFn n N body ds S) E := by
  obtain ⟨o, e, q⟩ := h
  unfold mkFn
  rw [if_pos hl, e]
  cases o with
  | rt d S' => exact wO_some.mpr q
  | nx _ S' => exact wO_some.mpr q
  | bk _ _ => exact q.elim
  | ct _ _ => exact q.elim
/-! ### loops -/
abbrev Im0 := List D × (Sto → Bool) × Sto
@[simp] theorem w_for {it : Im} {gm : Gm} {body : SM} : wO (mFor it gm body ρ S) Q ↔ wO (it ρ S) fun p => wO (forL gm p.2.1 body p.1 ρ p.2.2) Q := by unfold mFor; simp
@[simp] theorem w_comp {vs : List Nat} {it : Im} {gm : Gm} {tt : Tx} {el : Ex} : wO (mComp vs it gm tt el ρ S) E ↔ wO (it ρ S) fun p => wO (compL gm p.2.1 tt el (wipeE ρ vs) p.1 [] p.2.2) fun q => E (.loc q.2.length, q.2 ++ [.lst q.1]) := by unfold mComp; simp
@[simp] theorem w_I {R : Im0 → Prop} : wO (mI fa ρ S) R ↔ wO (fa ρ S) fun p => wO (seqI p.1 p.2) R := by unfold mI; simp
@[simp] theorem w_R1 {R : Im0 → Prop} : wO (mR1 ga ρ S) R ↔ wO (ga ρ S) fun p => wO (match p.1 with | [.int j] => if rngOk j = true then some (rngL 0 j.toNat, (fun _ : Sto => true), p.2) else none | _ => none) R := by unfold mR1; simp only [wO_bind] <;> exact Iff.rfl
@[simp] theorem w_R2 {R : Im0 → Prop} : wO (mR2 ga ρ S) R ↔ wO (ga ρ S) fun p => wO (match p.1 with | [.int i, .int j] => if rngOk i = true ∧ rngOk j = true then some (rngL i (j - i).toNat, (fun _ : Sto => true), p.2) else none | _ => none) R := by unfold mR2; simp only [wO_bind] <;> exact Iff.rfl
@[simp] theorem w_enum {R : Im0 → Prop} : wO (mEnum ga ρ S) R ↔ wO (ga ρ S) fun p => wO (match p.1 with | [d] => enumI d p.2 | _ => none) R := by unfold mEnum; simp only [wO_bind] <;> exact Iff.rfl
/-- behind a turn -/
def turnS (P : Env → Sto → Prop) (B : Env → Sto → Prop) (R : D → Sto → Prop) : Out → Prop
  | .nx ρ S => P ρ S
  | .ct ρ S => P ρ S
  | .bk ρ S => B ρ S
  | .rt d S => R d S
@[simp] theorem turnS_nx {P B : Env → Sto → Prop} {R : D → Sto → Prop} : turnS P B R (.nx ρ S) ↔ P ρ S := Iff.rfl
@[simp] theorem turnS_ct {P B : Env → Sto → Prop} {R : D → Sto → Prop} : turnS P B R (.ct ρ S) ↔ P ρ S := Iff.rfl
@[simp] theorem turnS_bk {P B : Env → Sto → Prop} {R : D → Sto → Prop} : turnS P B R (.bk ρ S) ↔ B ρ S := Iff.rfl
@[simp] theorem turnS_rt {P B : Env → Sto → Prop} {R : D → Sto → Prop} {d : D} : turnS P B R (.rt d S) ↔ R d S := Iff.rfl
/-- a loop by what holds ahead of each turn, by the items that are left -/
theorem for_w {gm : Gm} {chk : Sto → Bool} {body : SM} (P : List D → Env → Sto → Prop) (B : Env → Sto → Prop) (R : D → Sto → Prop)
    (hc : ∀ ds ρ S, P ds ρ S → chk S = true) (hs : ∀ d ds ρ S, P (d :: ds) ρ S → wO (gm d ρ) fun ρ1 => wO (body ρ1 S) (turnS (P ds) B R))
    (hn : ∀ ρ S, P [] ρ S → Q (.nx ρ S)) (hb : ∀ ρ S, B ρ S → Q (.nx ρ S)) (hr : ∀ d S, R d S → Q (.rt d S)) : ∀ (ds : List D) (ρ : Env) (S : Sto), P ds ρ S → wO (forL gm chk body ds ρ S) Q
  | [], ρ, S, h => by
    unfold forL
    rw [if_pos (hc _ _ _ h), wO_some]
    exact hn ρ S h
  | d :: ds, ρ, S, h => by
    unfold forL
    rw [if_pos (hc _ _ _ h), wO_bind]
    refine (hs d ds ρ S h).imp fun ρ1 h1 => ?_
    rw [wO_bind]
    refine h1.imp fun o ho => ?_
    cases o with
    | nx ρ2 S2 => exact for_w P B R hc hs hn hb hr ds ρ2 S2 ho
    | ct ρ2 S2 => exact for_w P B R hc hs hn hb hr ds ρ2 S2 ho
    | bk ρ2 S2 => exact wO_some.mpr (hb _ _ ho)
    | rt d2 S2 => exact wO_some.mpr (hr _ _ ho)
/-- a comprehension likewise: what is made so far -/
theorem comp_w {gm : Gm} {chk : Sto → Bool} {tt : Tx} {el : Ex} {ρ : Env} (P : List D → List D → Sto → Prop) (hc : ∀ ds acc S, P ds acc S → chk S = true)
    (hs : ∀ d ds acc S, P (d :: ds) acc S → wO (gm d ρ) fun ρ1 => wO (tt ρ1 S) fun b => (b.1 = true → wO (el ρ1 b.2) fun y => acc.length < sizeLine ∧ P ds (acc ++ [y.1]) y.2) ∧ (b.1 = false → P ds acc b.2))
    (hn : ∀ acc S, P [] acc S → A (acc, S)) : ∀ (ds acc : List D) (S : Sto), P ds acc S → wO (compL gm chk tt el ρ ds acc S) A
  | [], acc, S, h => by
    unfold compL
    rw [if_pos (hc _ _ _ h), wO_some]
    exact hn acc S h
  | d :: ds, acc, S, h => by
    unfold compL
    rw [if_pos (hc _ _ _ h), wO_bind]
    refine (hs d ds acc S h).imp fun ρ1 h1 => ?_
    rw [wO_bind]
    refine h1.imp fun b hb => ?_
    rw [wO_ite]
    refine ⟨fun e => ?_, fun e => comp_w P hc hs hn ds acc b.2 (hb.2 (by simpa using e))⟩
    rw [wO_bind]
    refine (hb.1 e).imp fun y hy => ?_
    rw [if_pos hy.1]
    exact comp_w P hc hs hn ds _ y.2 hy.2
end
/-! ### operations whose operands are known -/
section
variable {S : Sto} {i j : Int} {x y : Str} {b c : Bool} {ds es : List D} {n : Nat}
@[simp] theorem int0_ap {g : Int → Int → D} : int0 g (.int i) (.int j) S = some (g i j, S) := rfl
@[simp] theorem intD_ap {C : Int → Int → Prop} [∀ i j, Decidable (C i j)] {g : Int → Int → D} : intD C g (.int i) (.int j) S = if C i j then some (g i j, S) else none := rfl
@[simp] theorem add_int : addD (.int i) (.int j) S = some (.int (i + j), S) := rfl
@[simp] theorem add_tup : addD (.tup ds) (.tup es) S = if ds.length + es.length ≤ sizeLine then some (.tup (ds ++ es), S) else none := rfl
@[simp] theorem add_str : addD (.str x) (.str y) S = if x.length + y.length ≤ sizeLine then some (.str (x ++ y), S) else none := rfl
@[simp] theorem toInt_int : toIntD (.int i) S = some (.int i, S) := rfl
@[simp] theorem toInt_bl : toIntD (.bl b) S = some (.int (if b then 1 else 0), S) := rfl
@[simp] theorem abs_int : absD (.int i) S = some (.int (if i < 0 then -i else i), S) := rfl
@[simp] theorem eq_int : eqD (.int i) (.int j) S = some (.bl (decide (i = j)), S) := rfl
@[simp] theorem eq_str : eqD (.str x) (.str y) S = some (.bl (decide (x = y)), S) := rfl
@[simp] theorem eq_bl : eqD (.bl b) (.bl c) S = some (.bl (decide (b = c)), S) := rfl
@[simp] theorem ne_int : neD (.int i) (.int j) S = some (.bl (!decide (i = j)), S) := rfl
@[simp] theorem ne_str : neD (.str x) (.str y) S = some (.bl (!decide (x = y)), S) := rfl
@[simp] theorem key_int : keyOf (.int i) = some (.inl i) := rfl
@[simp] theorem key_str : keyOf (.str x) = some (.inr x) := rfl
@[simp] theorem ix_tup : ixD (.tup ds) (.int i) S = (atI ds i).bind fun x => some (x, S) := rfl
@[simp] theorem len_tup : lenD (.tup ds) S = some (.int ds.length, S) := rfl
@[simp] theorem len_rol : lenD (.rol ds) S = some (.int ds.length, S) := rfl
@[simp] theorem sl_tup : ∀ lo hi, sliceD (.tup ds) lo hi S = some (.tup (cutD ds lo hi), S) := fun _ _ => rfl
@[simp] theorem sl_rol : ∀ lo hi, sliceD (.rol ds) lo hi S = some (.loc S.length, S ++ [.lst (cutD ds lo hi)]) := fun _ _ => rfl
@[simp] theorem tup_tup : tupleD (.tup ds) S = some (.tup ds, S) := rfl
theorem ix_loc (h : S[n]? = some (.lst ds)) : ixD (.loc n) (.int i) S = (atI ds i).bind fun x => some (x, S) := by
  simp only [ixD, h]; simp only [ixS, seqOf, h, Option.bind_some]
theorem len_loc (h : S[n]? = some (.lst ds)) : lenD (.loc n) S = some (.int ds.length, S) := by simp only [lenD, h]
theorem lst_loc (h : S[n]? = some (.lst ds)) : lstOf S (.loc n) = some ds := by simp only [lstOf, h]
theorem seq_loc (h : S[n]? = some (.lst ds)) : seqOf S (.loc n) = some ds := by simp only [seqOf, h]
theorem tup_loc (h : S[n]? = some (.lst ds)) : tupleD (.loc n) S = some (.tup ds, S) := by simp only [tupleD, seq_loc h, Option.bind_some]
theorem app_loc {d : D} (h : S[n]? = some (.lst ds)) (hl : ds.length < sizeLine) : appD (.loc n) d S = some (.non, S.set n (.lst (ds ++ [d]))) := by simp only [appD, h, if_pos hl]
theorem pop_loc {d : D} (h : S[n]? = some (.lst ds)) (hl : ds[ds.length - 1]? = some d) : popD (.loc n) S = some (d, S.set n (.lst ds.dropLast)) := by simp only [popD, h, hl, Option.bind_some]
theorem ix_dic {kvs : List (Key × D)} {e d : D} {k : Key} (h : S[n]? = some (.dic kvs)) (hk : keyOf e = some k) (hg : getK kvs k = some d) : ixD (.loc n) e S = some (d, S) := by
  simp only [ixD, h, hk, hg, Option.bind_some]
theorem add_loc {m : Nat} (h : S[n]? = some (.lst ds)) (h' : S[m]? = some (.lst es)) (hl : ds.length + es.length ≤ sizeLine) : addD (.loc n) (.loc m) S = some (.loc S.length, S ++ [.lst (ds ++ es)]) := by
  simp only [addD, h, h', if_pos hl]
end
end DD

/-! What must hold, for the further mirrors. -/
namespace DD
open PySem L2
section
variable {ρ : Env} {S : Sto} {f g : SM} {fa fb fc fd : Ex} {ga gk : As} {t u : Tx} {Q : Out → Prop} {E : D × Sto → Prop} {A : List D × Sto → Prop} {T : Bool × Sto → Prop}
/-- behind a comparison in a chain -/
def linkC (h : Sto → Prop) (E : D × Sto → Prop) : D × Sto → Prop
  | (.bl true, S') => h S'
  | (.bl false, S') => E (.bl false, S')
  | _ => False
@[simp] theorem linkC_bl {h : Sto → Prop} {b : Bool} : linkC h E (.bl b, S) ↔ (b = true → h S) ∧ (b = false → E (.bl false, S)) := by
  cases b <;> simp [linkC]
@[simp] theorem w_chain {h h' : Op2} : wO (mChain h h' fa fb fc ρ S) E ↔ wO (fa ρ S) fun p => wO (fb ρ p.2) fun q => wO (h p.1 q.1 q.2) (linkC (fun S' => wO (fc ρ S') fun c => wO (h' q.1 c.1 c.2) E) E) := by
  unfold mChain
  simp only [wO_bind]
  refine ⟨fun z => z.imp fun p z => z.imp fun q z => z.imp fun r z => ?_, fun z => z.imp fun p z => z.imp fun q z => z.imp fun r z => ?_⟩
  · obtain ⟨d, s⟩ := r
    cases d with
    | bl b => cases b <;> simpa [linkC] using z
    | _ => simpa [linkC] using z
  · obtain ⟨d, s⟩ := r
    cases d with
    | bl b => cases b <;> simpa [linkC] using z
    | _ => simpa [linkC] using z
@[simp] theorem w_chain3 {h h' h'' : Op2} : wO (mChain3 h h' h'' fa fb fc fd ρ S) E ↔ wO (fa ρ S) fun p => wO (fb ρ p.2) fun q => wO (h p.1 q.1 q.2) (linkC (fun S' => wO (fc ρ S') fun c => wO (h' q.1 c.1 c.2) (linkC (fun S'' => wO (fd ρ S'') fun d => wO (h'' c.1 d.1 d.2) E) E)) E) := by
  unfold mChain3
  simp only [wO_bind]
  have in1 : ∀ {c : D} {r : D × Sto}, wO (match r.1 with | .bl true => (fd ρ r.2).bind fun d => h'' c d.1 d.2 | .bl false => some (.bl false, r.2) | _ => none) E ↔ linkC (fun S'' => wO (fd ρ S'') fun d => wO (h'' c d.1 d.2) E) E r := by
    rintro c ⟨d, s⟩
    cases d with
    | bl b => cases b <;> simp [linkC]
    | _ => simp [linkC]
  refine ⟨fun z => z.imp fun p z => z.imp fun q z => z.imp fun r z => ?_, fun z => z.imp fun p z => z.imp fun q z => z.imp fun r z => ?_⟩
  · obtain ⟨d, s⟩ := r
    cases d with
    | bl b =>
      cases b
      · simpa [linkC] using z
      · simp only [wO_bind] at z
        exact z.imp fun c z => z.imp fun r' z => in1.mp z
    | _ => simpa [linkC] using z
  · obtain ⟨d, s⟩ := r
    cases d with
    | bl b =>
      cases b
      · simpa [linkC] using z
      · simp only [wO_bind]
        exact wO.imp z fun c z => wO.imp z fun r' z => in1.mpr z
    | _ => simpa [linkC] using z
@[simp] theorem w_par3 {i j l : Nat} : wO (mPar3 i j l ga ρ S) Q ↔ wO (ga ρ S) fun p => wO (match p.1 with | [x, y, z] => some (Out.nx (((ρ.set i (some x)).set j (some y)).set l (some z)) p.2) | _ => none) Q := by unfold mPar3; simp only [wO_bind] <;> exact Iff.rfl
@[simp] theorem w_revL : wO (mRevL fa ρ S) E ↔ wO (fa ρ S) fun p => wO (lstOf p.2 p.1) fun ds => E (.loc p.2.length, p.2 ++ [.lst ds.reverse]) := by unfold mRevL; simp
@[simp] theorem w_dict0 : wO (mDict0 ρ S) E ↔ E (.loc S.length, S ++ [.dic []]) := wO_some
@[simp] theorem w_B2 {h : Op2} : wO (mB2 h ga ρ S) E ↔ wO (ga ρ S) fun q => wO (match q.1 with | [d, e] => h d e q.2 | _ => none) E := by unfold mB2; simp only [wO_bind] <;> exact Iff.rfl
@[simp] theorem w_Is {R : Im0 → Prop} : wO (mIs fa ρ S) R ↔ wO (fa ρ S) fun p => wO (strI p.1 p.2) R := by unfold mIs; simp
@[simp] theorem w_zip {R : Im0 → Prop} : wO (mZip ga ρ S) R ↔ wO (ga ρ S) fun p => wO (match p.1 with | [d, e] => zipI d e p.2 | _ => none) R := by unfold mZip; simp only [wO_bind] <;> exact Iff.rfl
@[simp] theorem w_st1 {h : Op2} : wO (mSt1 h fa fb ρ S) E ↔ wO (fa ρ S) fun p => wO (strOf p.1) fun _ => wO (fb ρ p.2) fun q => wO (h p.1 q.1 q.2) E := by unfold mSt1; simp
@[simp] theorem w_st0 {h : Op1} : wO (mSt0 h fa ρ S) E ↔ wO (fa ρ S) fun p => wO (strOf p.1) fun _ => wO (h p.1 p.2) E := by unfold mSt0; simp
/-- while by what holds ahead of each turn and a measure that falls -/
theorem while_w (P : Nat → Env → Sto → Prop) (B : Env → Sto → Prop) (R : D → Sto → Prop)
    (hs : ∀ n ρ S, P n ρ S → wO (t ρ S) fun b => (b.1 = true → wO (f ρ b.2) (turnS (fun ρ' S' => ∃ n', n' < n ∧ P n' ρ' S') B R)) ∧ (b.1 = false → Q (.nx ρ b.2)))
    (hb : ∀ ρ S, B ρ S → Q (.nx ρ S)) (hr : ∀ d S, R d S → Q (.rt d S)) : ∀ (m n : Nat) (ρ : Env) (S : Sto), P n ρ S → n < m → wO (whileL t f m ρ S) Q
  | 0, _, _, _, _, h => absurd h (Nat.not_lt_zero _)
  | m + 1, n, ρ, S, h, hn => by
    unfold whileL
    rw [wO_bind]
    refine (hs n ρ S h).imp fun b hb' => ?_
    rw [wO_ite]
    refine ⟨fun e => ?_, fun e => wO_some.mpr (hb'.2 (by simpa using e))⟩
    rw [wO_bind]
    refine (hb'.1 e).imp fun o ho => ?_
    cases o with
    | nx ρ2 S2 => obtain ⟨n', h1, h2⟩ := ho; exact while_w P B R hs hb hr m n' ρ2 S2 h2 (by omega)
    | ct ρ2 S2 => obtain ⟨n', h1, h2⟩ := ho; exact while_w P B R hs hb hr m n' ρ2 S2 h2 (by omega)
    | bk ρ2 S2 => exact wO_some.mpr (hb _ _ ho)
    | rt d2 S2 => exact wO_some.mpr (hr _ _ ho)
theorem mWhile_w (P : Nat → Env → Sto → Prop) (B : Env → Sto → Prop) (R : D → Sto → Prop)
    (hs : ∀ n ρ S, P n ρ S → wO (t ρ S) fun b => (b.1 = true → wO (f ρ b.2) (turnS (fun ρ' S' => ∃ n', n' < n ∧ P n' ρ' S') B R)) ∧ (b.1 = false → Q (.nx ρ b.2)))
    (hb : ∀ ρ S, B ρ S → Q (.nx ρ S)) (hr : ∀ d S, R d S → Q (.rt d S)) {n : Nat} (hn : n < 4294967296) (h : P n ρ S) : wO (mWhile t f ρ S) Q := while_w P B R hs hb hr fuelW n ρ S h (by unfold fuelW; exact hn)
end
section
variable {S : Sto} {i j : Int} {x y : Str} {b c : Bool} {ds es : List D} {n : Nat} {T : String}
@[simp] theorem isi_non : isiD T .non S = some (.bl (isB "NoneType" T), S) := rfl
@[simp] theorem isi_bl : isiD T (.bl b) S = some (.bl (isB "bool" T), S) := rfl
@[simp] theorem isi_int : isiD T (.int i) S = some (.bl (isB "int" T), S) := rfl
@[simp] theorem isi_str : isiD T (.str x) S = some (.bl (isB "str" T), S) := rfl
@[simp] theorem isi_tup : isiD T (.tup ds) S = some (.bl (isB "tuple" T), S) := rfl
@[simp] theorem isi_rol : isiD T (.rol ds) S = some (.bl (isB "list" T), S) := rfl
theorem isi_lst (h : S[n]? = some (.lst ds)) : isiD T (.loc n) S = some (.bl (isB "list" T), S) := by simp only [isiD, tyD, h, Option.bind_some]
theorem isi_dic {kvs : List (Key × D)} (h : S[n]? = some (.dic kvs)) : isiD T (.loc n) S = some (.bl (isB "dict" T), S) := by simp only [isiD, tyD, h, Option.bind_some]
@[simp] theorem strOf_str : strOf (.str x) = some x := rfl
@[simp] theorem cmpS_ap {p : Str → Str → Bool} : cmpS p (.str x) (.str y) S = some (.bl (p x y), S) := rfl
@[simp] theorem strI_str : strI (.str x) S = some (x.cps.toList.map fun c => .str ⟨#[c]⟩, fun _ => true, S) := rfl
@[simp] theorem zip_tup : zipI (.tup ds) (.tup es) S = some (zipL ds es, fun _ => true, S) := rfl
end
end DD

/-! What must hold, for the frozen mirrors. -/
namespace DD
open PySem L2
section
variable {ρ : Env} {S : Sto} {f g : SM} {fa fb fc fd : Ex} {ga gk : As} {t u : Tx} {Q : Out → Prop} {E : D × Sto → Prop} {A : List D × Sto → Prop} {T : Bool × Sto → Prop} {fr : Bool}
@[simp] theorem w_lstX : wO (mLstX fr ga ρ S) E ↔ wO (ga ρ S) fun p => E (mkL fr p.1 p.2) := by unfold mLstX; simp
@[simp] theorem w_slX {lo hi : Po} : wO (mSlX fr fa lo hi ρ S) E ↔ wO (fa ρ S) fun p => wO (lo ρ p.2) fun l => wO (hi ρ l.2) fun u => wO (sliceX fr p.1 l.1 u.1 u.2) E := by unfold mSlX; simp
@[simp] theorem w_listRgX {fr' : Rm} : wO (mListRgX fr fr' ρ S) E ↔ wO (fr' ρ S) fun p => wO (if rngOk p.1 = true ∧ rngOk p.2.1 = true ∧ (p.2.1 - p.1).toNat ≤ 2 ^ 24 then some (mkL fr (rngL p.1 (p.2.1 - p.1).toNat) p.2.2) else none) E := by unfold mListRgX; simp
@[simp] theorem w_revX : wO (mRevX fr fa ρ S) E ↔ wO (fa ρ S) fun p => wO (match p.1 with
  | .tup ds => if ds.length ≤ sizeLine then some (.tup ds.reverse, p.2) else none
  | d => (lstOf p.2 d).bind fun ds => some (mkL fr ds.reverse p.2)) E := by unfold mRevX; simp only [wO_bind] <;> exact Iff.rfl
@[simp] theorem w_sortSetX : wO (mSortSetX fr fa ρ S) E ↔ wO (fa ρ S) fun p => wO (setKeys p.1) fun kss => wO (if kindsOf kss = true then some (mkL fr ((isort ltL (uniqK kss)).map fun k => .tup (k.map dK)) p.2) else none) E := by unfold mSortSetX; simp
@[simp] theorem w_lenSet : wO (mLenSet fa ρ S) E ↔ wO (fa ρ S) fun p => wO (setKeys p.1) fun kss => E (.int (uniqK kss).length, p.2) := by unfold mLenSet; simp
@[simp] theorem w_inTab {tab : List (Str × D)} : wO (mInTab tab fa ρ S) E ↔ wO (fa ρ S) fun p => wO (match p.1 with | .str z => some (.bl (tabGet tab z).isSome, p.2) | _ => none) E := by unfold mInTab; simp only [wO_bind] <;> exact Iff.rfl
@[simp] theorem w_ixTab {tab : List (Str × D)} : wO (mIxTab tab fa ρ S) E ↔ wO (fa ρ S) fun p => wO (match p.1 with | .str z => (tabGet tab z).bind fun d => some (d, p.2) | _ => none) E := by unfold mIxTab; simp only [wO_bind] <;> exact Iff.rfl
@[simp] theorem w_compX {vs : List Nat} {it : Im} {gm : Gm} {tt : Tx} {el : Ex} : wO (mCompX fr vs it gm tt el ρ S) E ↔ wO (it ρ S) fun p => wO (compL gm p.2.1 tt el (wipeE ρ vs) p.1 [] p.2.2) fun q => E (mkL fr q.1 q.2) := by unfold mCompX; simp
theorem w_gcZ {g : Fn} {ds : List D} (h : wO (g ds S) fun p => ∃ d, zD S.length p.2 p.1 = some d ∧ gcB S.length S p.2 = true ∧ E (d, p.2.take S.length)) : wO (gcZ g ds S) E := by
  unfold gcZ
  simp only [wO_bind]
  refine h.imp fun p ⟨d, h1, h2, h3⟩ => ?_
  rw [h1, h2]
  simpa using h3
theorem zD_of {n : Nat} {S1 : Sto} {d : D} (h : scD n d = true) : zD n S1 d = some d := by
  cases d <;> simp_all [zD]
/-- a def that leaves all as it was -/
theorem z_pure {g : Fn} {ds : List D} {d : D} {T : Sto} (h : wO (g ds S) fun p => p = (d, S ++ T)) (hs : scD S.length d = true) : gcZ g ds S = some (d, S) := by
  obtain ⟨p, h1, rfl⟩ := h
  unfold gcZ
  rw [h1]
  simp [zD_of hs]
theorem z_pure0 {g : Fn} {ds : List D} {d : D} (h : wO (g ds S) fun p => p = (d, S)) (hs : scD S.length d = true) : gcZ g ds S = some (d, S) := z_pure (T := []) (by simpa using h) hs
end
section
variable {S : Sto} {i j : Int} {x y : Str} {b c fr : Bool} {ds es : List D} {n : Nat} {d e : D}
@[simp] theorem addX_int : addX fr (.int i) (.int j) S = some (.int (i + j), S) := rfl
@[simp] theorem addX_tup : addX fr (.tup ds) (.tup es) S = if ds.length + es.length ≤ sizeLine then some (.tup (ds ++ es), S) else none := rfl
@[simp] theorem addX_str : addX fr (.str x) (.str y) S = if x.length + y.length ≤ sizeLine then some (.str (x ++ y), S) else none := rfl
@[simp] theorem addX_rol : addX fr (.rol ds) (.rol es) S = if ds.length + es.length ≤ sizeLine then some (mkL fr (ds ++ es) S) else none := rfl
theorem addX_loc {m : Nat} (h : S[n]? = some (.lst ds)) (h' : S[m]? = some (.lst es)) : addX fr (.loc n) (.loc m) S = if ds.length + es.length ≤ sizeLine then some (mkL fr (ds ++ es) S) else none := by
  simp only [addX, lstOf, h, h', Option.bind_some]
theorem addX_locR (h : S[n]? = some (.lst ds)) : addX fr (.loc n) (.rol es) S = if ds.length + es.length ≤ sizeLine then some (mkL fr (ds ++ es) S) else none := by
  simp only [addX, lstOf, h, Option.bind_some]
theorem addX_Rloc (h : S[n]? = some (.lst ds)) : addX fr (.rol es) (.loc n) S = if es.length + ds.length ≤ sizeLine then some (mkL fr (es ++ ds) S) else none := by
  simp only [addX, lstOf, h, Option.bind_some]
@[simp] theorem sliceX_tup : ∀ lo hi, sliceX fr (.tup ds) lo hi S = some (.tup (cutD ds lo hi), S) := fun _ _ => rfl
@[simp] theorem sliceX_rol : ∀ lo hi, sliceX fr (.rol ds) lo hi S = some (mkL fr (cutD ds lo hi) S) := fun _ _ => rfl
@[simp] theorem sliceX_str : ∀ lo hi, sliceX fr (.str x) lo hi S = if x.length ≤ sizeLine then some (.str (cutS x lo hi), S) else none := fun _ _ => rfl
@[simp] theorem listX_rol : listX fr (.rol ds) S = some (mkL fr ds S) := rfl
@[simp] theorem listX_tup : listX fr (.tup ds) S = some (mkL fr ds S) := rfl
@[simp] theorem tup_rol : tupleD (.rol ds) S = some (.tup ds, S) := rfl
@[simp] theorem ix_rol : ixD (.rol ds) (.int i) S = (atI ds i).bind fun x => some (x, S) := rfl
@[simp] theorem lstOf_rol : lstOf S (.rol ds) = some ds := rfl
@[simp] theorem seqOf_rol : seqOf S (.rol ds) = some ds := rfl
@[simp] theorem seqOf_tup : seqOf S (.tup ds) = some ds := rfl
@[simp] theorem seqI_tup : seqI (.tup ds) S = some (ds, fun _ => true, S) := rfl
@[simp] theorem seqI_rol : seqI (.rol ds) S = some (ds, fun _ => true, S) := rfl
@[simp] theorem enumI_tup : enumI (.tup ds) S = some (numL 0 ds, fun _ => true, S) := rfl
@[simp] theorem splitX_str : splitX fr (.str x) (.str y) S = if (y.length == 0) = false ∧ x.length + 2 ≤ sizeLine then some (mkL fr ((Txt.split x y).map D.str) S) else none := rfl
end
end DD

/-! Tuples of ints and texts compared by <. -/
namespace DD
open PySem PySem.Spec PyProof.Rows L2 SrtO
theorem lt_strR {A : Around} {s : Shared} (x y : Str) (t u : Tok) : Ob.RcOp .Lt A s (.str x t) (.str y u) (strLt x y) := fun prog w E Q h => PySem.P.lt_str h
theorem lexAt_lt : ∀ (k l : List Key) (e r : Nat → Bool) (i : Nat), k.length = l.length → (∀ j, e (i + j) = decide (k.getD j (.inl 0) = l.getD j (.inl 0))) → (∀ j, e (i + j) = false → r (i + j) = ltKey (k.getD j (.inl 0)) (l.getD j (.inl 0))) →
    Ob.lexAt e r false i k.length = ltL k l
  | [], [], _, _, _, _, _, _ => rfl
  | [], _ :: _, _, _, _, h, _, _ => by cases h
  | _ :: _, [], _, _, _, h, _, _ => by cases h
  | a :: k, b :: l, e, r, i, h, he, hr => by
    rw [List.length_cons, Ob.lexAt_succ]
    have e0 := he 0
    have r0 := hr 0
    simp only [Nat.add_zero, List.getD_cons_zero] at e0 r0
    unfold ltL
    by_cases q : a = b
    · rw [e0, decide_eq_true q, if_pos rfl, if_pos q]
      refine lexAt_lt k l e r (i + 1) (by simpa using h) (fun j => ?_) fun j => ?_
      · have := he (j + 1)
        rw [show i + (j + 1) = i + 1 + j by omega] at this
        simpa using this
      · have := hr (j + 1)
        rw [show i + (j + 1) = i + 1 + j by omega] at this
        simpa using this
    · rw [e0, decide_eq_false q, if_neg Bool.false_ne_true, if_neg q]
      rw [decide_eq_false q] at e0
      exact r0 e0
def rLtT (K : PySem.W.Frag) : R2 := fun x y H Q => ∃ (a b : Addr) (k l : List Key), x = .ref a ∧ y = .ref b ∧ SqT K H a (k.map kV) ∧ SqT K H b (l.map kV) ∧ k.map isNum = l.map isNum ∧ Q (.bl (ltL k l)) H
theorem op_ltT' {X : Cx} (hu : X.A.units < cLine) : OpR X (compareOp .Lt) (rLtT X.K) := by
  intro pins s σ H x y v u Q I rx ry h
  obtain ⟨a, b, k, l, rfl, rfl, ha, hb, al, q⟩ := h
  cases rx
  cases ry
  obtain ⟨its, r1, p1, _⟩ := I.tuple ha
  obtain ⟨its2, r2, p2, _⟩ := I.tuple hb
  have k1 := keysV_of r1
  have k2 := keysV_of r2
  have n1 : its.toArray.size = k.length := by rw [List.size_toArray]; exact (Paired.length k1).symm
  have n2 : its2.toArray.size = l.length := by rw [List.size_toArray]; exact (Paired.length k2).symm
  have nn : k.length = l.length := by simpa using congrArg List.length al
  have kind : ∀ j, j < k.length → isNum (k.getD j (.inl 0)) = isNum (l.getD j (.inl 0)) := fun j hj => by
    have e : (k.map isNum)[j]? = (l.map isNum)[j]? := by rw [al]
    rw [List.getElem?_map, List.getElem?_map, List.getElem?_eq_getElem hj, List.getElem?_eq_getElem (nn ▸ hj)] at e
    have e' := Option.some.inj e
    rw [List.getD_eq_getElem?_getD, List.getD_eq_getElem?_getD, List.getElem?_eq_getElem hj, List.getElem?_eq_getElem (nn ▸ hj)]
    exact e'
  have R := Ob.RcOp.tuples_lt (A := X.A) (s := s) (e := fun j => decide (k.getD j (.inl 0) = l.getD j (.inl 0))) (r := fun j => ltKey (k.getD j (.inl 0)) (l.getD j (.inl 0))) p1 p2 hu (fun j h1 h2 => by
    have z1 := keyV_at k1 j (by simpa using h1)
    have z2 := keyV_at k2 j (by simpa using h2)
    have z3 := kind j (by rw [← n1]; exact h1)
    generalize k.getD j (.inl 0) = x at z1 z3 ⊢
    generalize l.getD j (.inl 0) = y at z2 z3 ⊢
    cases x with
    | inl i =>
      cases y with
      | inr z => cases z3
      | inl i' =>
        obtain ⟨t, e1⟩ := z1
        obtain ⟨t', e2⟩ := z2
        have g1 : its.toArray[j] = .int i t := by simpa using e1
        have g2 : its2.toArray[j] = .int i' t' := by simpa using e2
        rw [g1, g2, show decide ((Sum.inl i : Key) = Sum.inl i') = (i == i') by by_cases q : i = i' <;> simp [q]]
        exact SeqAt.EqAt.int_int _ _ _ _
    | inr i =>
      cases y with
      | inl z => cases z3
      | inr i' =>
        obtain ⟨t, e1⟩ := z1
        obtain ⟨t', e2⟩ := z2
        have g1 : its.toArray[j] = .str i t := by simpa using e1
        have g2 : its2.toArray[j] = .str i' t' := by simpa using e2
        rw [g1, g2, show decide ((Sum.inr i : Key) = Sum.inr i') = (i == i') by by_cases q : i = i' <;> simp [q]]
        exact SeqAt.EqAt.str_str _ _ _ _) (fun j h1 h2 _ => by
    have z1 := keyV_at k1 j (by simpa using h1)
    have z2 := keyV_at k2 j (by simpa using h2)
    have z3 := kind j (by rw [← n1]; exact h1)
    generalize k.getD j (.inl 0) = x at z1 z3 ⊢
    generalize l.getD j (.inl 0) = y at z2 z3 ⊢
    cases x with
    | inl i =>
      cases y with
      | inr z => cases z3
      | inl i' =>
        obtain ⟨t, e1⟩ := z1
        obtain ⟨t', e2⟩ := z2
        have g1 : its.toArray[j] = .int i t := by simpa using e1
        have g2 : its2.toArray[j] = .int i' t' := by simpa using e2
        rw [g1, g2, show (ltKey (.inl i) (.inl i')) = decide (i < i') from rfl]
        exact Ob.RcOp.lt_int _ _ _ _
    | inr i =>
      cases y with
      | inl z => cases z3
      | inr i' =>
        obtain ⟨t, e1⟩ := z1
        obtain ⟨t', e2⟩ := z2
        have g1 : its.toArray[j] = .str i t := by simpa using e1
        have g2 : its2.toArray[j] = .str i' t' := by simpa using e2
        rw [g1, g2]
        exact lt_strR _ _ _ _)
  rw [n1, n2, nn, Nat.min_self, show decide (l.length < l.length) = false by simp, ← nn, lexAt_lt k l _ _ 0 nn (fun j => by rw [Nat.zero_add]) (fun j _ => by rw [Nat.zero_add])] at R
  exact R X.prog X.w X.xe (EP X pins σ Q) ⟨.bl _, H, I, rfl, q⟩
/-- >= of two ints, or of two tuples alike in kind -/
def ltA : Op2 := fun d e S => match d, e with
  | .int i, .int j => some (.bl (decide (i < j)), S)
  | d, e => (keysL d).bind fun k => (keysL e).bind fun l => if k.map isNum = l.map isNum then some (.bl (ltL k l), S) else none
section
variable {X : Cx} {a b : Expr} {fa fb : Ex} {pos : Pos} {k : Nat}
theorem od_ltA {K : PySem.W.Frag} : OpD K (fun x y H Q => rI0 (fun i j => .bl (decide (i < j))) x y H Q ∨ rLtT K x y H Q) ltA := by
  intro H m S x y d e d' S' Q s rx ry h q
  have tup : ((keysL d).bind fun k => (keysL e).bind fun l => if k.map isNum = l.map isNum then some (D.bl (ltL k l), S) else none) = some (d', S') → rLtT K x y H Q := fun h => by
    obtain ⟨k, h1, h⟩ := obind h
    obtain ⟨l, h2, h⟩ := obind h
    by_cases al : k.map isNum = l.map isNum
    · rw [if_pos al] at h
      cases h
      obtain ⟨a, rfl, g1⟩ := keysL_rep rx h1
      obtain ⟨b, rfl, g2⟩ := keysL_rep ry h2
      exact ⟨a, b, k, l, rfl, rfl, g1, g2, al, q _ H m (Ext.refl H m) s (.bl _)⟩
    · rw [if_neg al] at h; cases h
  cases d with
  | int i =>
    cases e with
    | int j => cases h; cases rx; cases ry; exact .inl ⟨i, j, rfl, rfl, q _ H m (Ext.refl H m) s (.bl _)⟩
    | _ => exact .inr (tup h)
  | _ => exact .inr (tup (by cases e <;> exact h))
theorem de_ltA (hr : RG k X) (ha : DE X a fa) (hb : DE X b fb) : DE X (.Compare a [.Lt] [b] pos) (m2 ltA fa fb) := de_cmp (op_lt.or (op_ltT' (by have := hr.hu1; omega))) od_ltA ha hb (nomark _)
theorem dt_ltA (hr : RG k X) (ha : DE X a fa) (hb : DE X b fb) : DT X (.Compare a [.Lt] [b] pos) (mB (m2 ltA fa fb)) := dt_cmp (op_lt.or (op_ltT' (by have := hr.hu1; omega))) od_ltA ha hb (nomark _)
end
end DD

/-! repr of all data, dicts that nobody changes among it. -/
namespace DD
open PySem PySem.Spec PyProof.Rows L2
/-- the modules' own table is a dict of the written part -/
def SysK (K : PySem.W.Frag) : Prop := ∃ o, K.lookup sysModules = some o ∧ o.cls = .type "dict"
def keyP : Key → PyData
  | .inl i => .int i
  | .inr x => .str x
def toPyR : Nat → Sto → D → Option PyData
  | 0, _, .non => some .none
  | 0, _, .bl b => some (.bool b)
  | 0, _, .int i => some (.int i)
  | 0, _, .str x => some (.str x)
  | 0, _, _ => none
  | _ + 1, _, .non => some .none
  | _ + 1, _, .bl b => some (.bool b)
  | _ + 1, _, .int i => some (.int i)
  | _ + 1, _, .str x => some (.str x)
  | n + 1, S, .tup ds => (mapO (toPyR n S) ds).bind fun ps => some (.tuple ps)
  | n + 1, S, .rol ds => (mapO (toPyR n S) ds).bind fun ps => some (.list ps)
  | n + 1, S, .rod ks ds => (mapO (toPyR n S) ds).bind fun ps => some (.dict ((ks.map keyP).zip ps))
  | n + 1, S, .loc k => match S[k]? with
    | some (.lst ds) => (mapO (toPyR n S) ds).bind fun ps => some (.list ps)
    | _ => none
section
variable {X : Cx} {pins : List (Addr × Obj)} {σ : L2.St} {H : Hp} {s : Shared} {m : List Addr} {S : Sto}
theorem mapO_len {α β : Type} {f : α → Option β} : ∀ {xs : List α} {ys : List β}, mapO f xs = some ys → xs.length = ys.length
  | [], _, h => by cases h; rfl
  | x :: xs, _, h => by
    obtain ⟨y, h1, h⟩ := obind h
    obtain ⟨r, h2, h⟩ := obind h
    cases h
    simp [mapO_len h2]
theorem reads_all {f : D → Option PyData} (hf : ∀ d v p u, Rep X.K H m d v → f d = some p → RelV v u → ∃ as, Reads s.heap u p as ∧ sysModules ∉ as) : ∀ {ds : List D} {vs : List V} {ps : List PyData} {us : List Value}, RepL X.K H m ds vs → mapO f ds = some ps → Vals vs us → ∃ as, ReadsAll s.heap us ps as ∧ sysModules ∉ as
  | _, _, _, _, .nil, h, r => by cases h; cases r; exact ⟨_, .nil, by simp⟩
  | _, _, _, _, .cons rd t, h, r => by
    obtain ⟨y, h1, h⟩ := obind h
    obtain ⟨ys, h2, h⟩ := obind h
    cases h
    cases r with
    | cons r1 r2 =>
      obtain ⟨as, q1, n1⟩ := hf _ _ _ _ rd h1 r1
      obtain ⟨bs, q2, n2⟩ := reads_all hf t h2 r2
      exact ⟨_, .cons q1 q2, by simp [n1, n2]⟩
theorem reads_keys {w : World} {P : Program} : ∀ {es : List DictEntry} {vs : List (Key × Value)}, Pairs (mixKind P w) es vs → ReadsAll s.heap (es.map (·.key)) (vs.map fun q => keyP q.1) [] ∧ es.map (·.val) = vs.map (·.2)
  | _, _, .nil => ⟨.nil, rfl⟩
  | _, _, .cons (e := e) (kv := kv) h1 h2 t => by
    obtain ⟨q1, q2⟩ := reads_keys t
    refine ⟨?_, by rw [List.map_cons, List.map_cons, h2, q2]⟩
    rw [List.map_cons, List.map_cons]
    rcases keyIs_shape h1 with ⟨i, t, e1, e2⟩ | ⟨x, t, e1, e2⟩
    · rw [e1, e2]; exact .cons (as := []) (.int i t) q1
    · rw [e1, e2]; exact .cons (as := []) (.str x t) q1
theorem kv_split : ∀ {kvs : List (Key × V)} {vs : List (Key × Value)}, KV kvs vs → vs.map Prod.fst = kvs.map Prod.fst ∧ Vals (kvs.map Prod.snd) (vs.map Prod.snd)
  | _, _, .nil => ⟨rfl, .nil⟩
  | _, _, .cons r t => by
    obtain ⟨q1, q2⟩ := kv_split t
    exact ⟨by rw [List.map_cons, List.map_cons, q1, r.1], .cons r.2 q2⟩
theorem reads_rep (I : Inv X pins σ H s) (sy : SysK X.K) (st : StR X.K H m S) : ∀ (n : Nat) (d : D) (v : V) (p : PyData) (u : Value), Rep X.K H m d v → toPyR n S d = some p → RelV v u → ∃ as, Reads s.heap u p as ∧ sysModules ∉ as := by
  obtain ⟨so, hso, hsc⟩ := sy
  have hs := I.kIn _ _ hso
  have nl : ∀ {a : Addr} {o : Obj}, s.heap.get? a = some o → o.cls = .type "list" → a ≠ sysModules := fun {a o} h hc e => by
    rw [e, hs] at h
    cases h
    rw [hsc] at hc
    exact absurd hc (by decide)
  intro n
  induction n with
  | zero =>
    intro d v p u r h ru
    cases d with
    | non => cases h; cases r; cases ru; exact ⟨_, .none, by simp⟩
    | bl b => cases h; cases r; cases ru; exact ⟨_, .bool b, by simp⟩
    | int b => cases h; cases r; obtain ⟨t, rfl⟩ := ru; exact ⟨_, .int b t, by simp⟩
    | str b => cases h; cases r; obtain ⟨t, rfl⟩ := ru; exact ⟨_, .str b t, by simp⟩
    | _ => cases h
  | succ n ih =>
    intro d v p u r h ru
    have lists : ∀ {a : Addr} {vs : List V} {ds : List D}, SqL X.K H a vs → RepL X.K H m ds vs → (mapO (toPyR n S) ds).bind (fun ps => some (PyData.list ps)) = some p → ∃ as, Reads s.heap (.ref a) p as ∧ sysModules ∉ as := fun {a vs ds} hs' rs h => by
      obtain ⟨ps, h1, h⟩ := obind h
      cases h
      obtain ⟨its, rv, ⟨o, n', ho, hc, _, hd⟩, _⟩ := I.list hs'
      obtain ⟨as, q1, q2⟩ := reads_all ih rs h1 rv
      refine ⟨_, .list ho hc hd q1, ?_⟩
      rw [List.mem_cons]
      rintro (e | e)
      · exact nl ho hc e.symm
      · exact q2 e
    cases d with
    | non => cases h; cases r; cases ru; exact ⟨_, .none, by simp⟩
    | bl b => cases h; cases r; cases ru; exact ⟨_, .bool b, by simp⟩
    | int b => cases h; cases r; obtain ⟨t, rfl⟩ := ru; exact ⟨_, .int b t, by simp⟩
    | str b => cases h; cases r; obtain ⟨t, rfl⟩ := ru; exact ⟨_, .str b t, by simp⟩
    | tup ds =>
      obtain ⟨ps, h1, h⟩ := obind h
      cases h
      cases r with
      | tup hs' rs =>
        cases ru
        obtain ⟨its, rv, ⟨o, ho, hc, n', hd⟩, _⟩ := I.tuple hs'
        obtain ⟨as, q1, q2⟩ := reads_all ih rs h1 rv
        exact ⟨_, .tuple ho hc hd q1, q2⟩
    | rol ds =>
      cases r with
      | rol hs' rs => cases ru; exact lists hs'.sq rs h
    | rod ks ds =>
      obtain ⟨ps, h1, h⟩ := obind h
      cases h
      cases r with
      | rod hd hk rs =>
        cases ru
        obtain ⟨od, hd⟩ := hd
        obtain ⟨_, _, hsys, vs, kv, dd⟩ := (show ObjOk X.prog X.w H s.heap _ (.frz od (.dK _)) from I.hok _ _ hd)
        obtain ⟨o, es, ep, ho, hex, hdat, _, hp, _⟩ := dd
        obtain ⟨k1, k2⟩ := kv_split kv
        obtain ⟨p1, p2⟩ := reads_keys (s := s) hp
        obtain ⟨as, q1, q2⟩ := reads_all ih rs h1 k2
        have lp : (ks.map keyP).length = ps.length := by
          have a1 := mapO_len h1
          have a2 := rs.length
          rw [List.length_map, ← hk, List.length_map]
          rw [List.length_map] at a2
          omega
        have e1 : ((ks.map keyP).zip ps).map (·.1) = vs.map fun q => keyP q.1 := by
          rw [List.map_fst_zip (by omega), ← hk, ← k1, List.map_map]
          rfl
        have e2 : ((ks.map keyP).zip ps).map (·.2) = ps := List.map_snd_zip (by omega)
        refine ⟨_, .dict ho hex.1 hdat (by rw [e1]; exact p1) (by rw [e2, p2]; exact q1), ?_⟩
        simp only [List.append_nil, List.cons_append, List.mem_cons]
        rintro (e | e)
        · rw [e] at hsys; simp at hsys
        · exact q2 (by simpa using e)
    | loc k =>
      simp only [toPyR] at h
      cases hk : S[k]? with
      | none => rw [hk] at h; cases h
      | some c =>
        rw [hk] at h
        cases c with
        | dic kvs => cases h
        | lst ds =>
          obtain ⟨a, vs, rfl, _, e, rs⟩ := st.lst r hk
          cases ru
          exact lists (SqL.of e) rs h
/-- repr of data of all kinds -/
def reprX : Op1 := fun d S => (toPyR 64 S d).bind fun p => if PyData.showable p = true ∧ p.shown.length ≤ sizeLine ∧ p.depth ≤ 64 then some (.str p.shown, S) else none
def rReprX (X : Cx) : List V → Hp → VK → Prop := fun xs H Q => ∃ x p, xs = [x] ∧ (∃ (d : D) (m : List Addr) (S : Sto), StR X.K H m S ∧ Rep X.K H m d x ∧ toPyR 64 S d = some p) ∧ PyData.showable p = true ∧ p.shown.length ≤ sizeLine ∧ p.depth ≤ 64 ∧ Q (.str p.shown) H
variable {k : Nat} {e : Expr} {ga : As} {pos : Pos}
theorem call_reprX (hr : RG k X) (sy : SysK X.K) : CallR X (.builtin "repr") (rReprX X) := by
  intro pins s σ H xs us Q I r h
  obtain ⟨x, p, rfl, ⟨d, m, S, st, rd, tp⟩, h1, h2, h3, q⟩ := h
  obtain ⟨u, rfl, ru⟩ := vals1 r
  obtain ⟨as, rds, hn⟩ := reads_rep I sy st 64 d x p u rd tp ru
  have hu := hr.room.un
  have go : ∀ a, u = .ref a → wpAny (model X.prog X.w) X.A (call (.builtin "repr") [u]) (EP X pins σ Q) X.xe s := fun a e => by
    subst e
    exact repr_of_reads' rds h1 (fun _ => hn) hr.gd (by omega) (fun _ _ e => e) (fun h' u tk hk => ⟨.str p.shown, H, I.kept (t' := tk) hk, ⟨u, rfl⟩, q⟩) h2
  cases rds with
  | none => exact PySem.P.repr_of_none ⟨.str _, H, I.tok _, ⟨_, rfl⟩, q⟩
  | bool b => exact PySem.P.repr_of_bool ⟨.str _, H, I.tok _, ⟨_, rfl⟩, by cases b <;> exact q⟩
  | int i t => exact PySem.P.repr_of_int (by simpa only [PyData.showable, decide_eq_true_eq] using h1) ⟨.str _, H, I.tok _, ⟨_, rfl⟩, q⟩
  | str z t => exact PySem.P.repr_of_str ⟨.str _, H, I.tok _, ⟨_, rfl⟩, q⟩ h2
  | list _ _ _ _ => exact go _ rfl
  | tuple _ _ _ _ => exact go _ rfl
  | dict _ _ _ _ _ => exact go _ rfl
theorem o1_reprX : Op1D X.K (rReprX X) reprX := by
  intro H m S x d d' S' Q s r h q
  obtain ⟨p, h1, h⟩ := obind h
  by_cases hc : PyData.showable p = true ∧ p.shown.length ≤ sizeLine ∧ p.depth ≤ 64
  · rw [if_pos hc] at h
    cases h
    exact ⟨x, p, rfl, ⟨d, m, S, s, r, h1⟩, hc.1, hc.2.1, hc.2.2, q _ H m (Ext.refl H m) s (.str _)⟩
  · rw [if_neg hc] at h; cases h
theorem de_reprX {p : Pos} (hr : RG k X) (sy : SysK X.K) (hg : Gl X "repr") (hm : X.mg "repr" = none) (ha : DA X [e] ga) (he : starEach [e] X.env = (false, eval e X.env) :: starEach [] X.env := by rfl) : DE X (.Call (.Name "repr" p) [e] [] pos) (m1 reprX ga) :=
  de_b1 (call_reprX hr sy) o1_reprX hg hm (by decide +kernel) ha (by decide) (by decide) he
/-! ### {} that nobody changes -/
def mDict0R : Ex := fun _ S => some (.rod [] [], S)
def fzD (Q : VK) : VK := fun v H => Q v H ∨ ∃ a kvs, v = .ref a ∧ H a = some (.dK kvs) ∧ ∀ od, Q v (upd H a (.frz od (.dK kvs)))
theorem pe_fzD {e : Expr} {t : TE} (h : PE X e t) : PE X e (fun σ H Q => t σ H (fzD Q)) := ⟨fun pins s σ H Q I q => thn (h.run pins s σ H (fzD Q) I q) fun u s' hs => by
  obtain ⟨v, H', I', r, q⟩ := hs
  rcases q with q | ⟨a, vs, rfl, e, q⟩
  · exact ⟨v, H', I', r, q⟩
  · obtain ⟨od, I2⟩ := I'.lock e trivial
    exact ⟨_, _, I2, r, q od⟩⟩
theorem de_dict0R : DE X (.Dict [] [] pos) mDict0R := pew (pe_fzD pe_dnewK) fun σ H Q h => by
  obtain ⟨ρ, S, m, d', S', E, st, hf, q⟩ := h
  cases hf
  refine fun p hp => .inr ⟨p, [], rfl, upd_same, fun od => ?_⟩
  rw [upd_upd]
  exact q _ _ m (Ext.new1 hp) (st.new1 hp) (.rod ⟨od, upd_same⟩ rfl .nil)
end
end DD

namespace DD
open PySem PySem.Spec PyProof.Rows L2
section
variable {X : Cx} {pos : Pos}
theorem de_gs {x : Str} {i : Str} {p : Pos} (h : ∃ u, X.mg x = some u ∧ RelV (.str i) u) (hg : Gl X x) (hd : (x == ("__debug__" : Str)) = false := by decide) : DE X (.Name x p) (mC (.str i)) := by
  obtain ⟨u, h1, h2⟩ := h
  exact de_kv ⟨u, .str i, h1, h2, fun _ _ => .str _⟩ hg hd
end
end DD

/-! The head: what a law's end leans on, read off the heap behind the top by one run of the kernel. -/
namespace DD
open PySem PySem.Spec PyProof.Rows L2
theorem law_endE {l : PySem.W.OpenLaw} {n k : Nat} {q : Program} {loose : List Str} {XP : (Str → Option Value) → Heap → Prop} {YP : World → Heap → Prop} {d : DefRec} {g : Fn} {x : Str}
    (hn : l.most = some n) (hn2 : n ≤ sizeLine) (hdf : d.params.defaults = []) (hr : Room k callerA)
    (F : ∀ (w : World) (mg : Str → Option Value) (fa : Addr) (h : Heap), YP w h → h.Ns mainGlobals mg → mg d.name = some (.ref fa) →
      ∃ K : PySem.W.Frag, K.In h ∧ ∃ fd : FuncData, (∀ (s : Shared) (u : Value), BindsTo s fd ⟨[u], []⟩ [(x, u)]) ∧
        ∀ base : Heap, K.In base → base.Ns mainGlobals mg → FnG l.prog w K mg base k fa fd [x] g)
    (hg : ∀ ns : List Int, ns.length ≤ n → ∃ S, g [.rol (ns.map D.int)] [] = some (.bl true, S)) :
    PySem.W.WalkO q loose XP YP l.row.toRowW d [] (fun f vs => PySem.call f vs) := by
  refine Att.attach_call hn hdf fun w s₀ s₁ mg mb fa o pm cd doc a vs ns G Y ho hd hcd hmg hobj hints hlen hgens => ?_
  obtain ⟨K, KX, fd, hb, hF⟩ := F w mg fa _ Y G.T.g hmg
  obtain ⟨Sn, hgn⟩ := hg ns hlen
  have rv := vals_ints hints
  have lenV := hints.length
  have core : ∀ H : Hp, Only H → RoL K H a (ns.map V.int) → HOk l.prog w H s₁.heap → (∀ b, H b ≠ none → b = a) → (H a ≠ none → K.lookup a = none) →
      codeAny (model l.prog w) callerA (.call (.ref fa) ⟨[.ref a], []⟩) (fun r s' => r = .ok (.ret (.bool true)) ∧ OldK s₁.heap s'.heap ∧ s'.os = s₁.os ∧ AllBare s'.gens) s₁ := by
    intro H hO hS hok hA hK
    have track : ∀ b : Addr, H b = none ∨ b = a := fun b => by
      cases q : H b with
      | none => exact .inl rfl
      | some u => exact .inr (hA b (by rw [q]; simp))
    have noA : ∀ {b : Addr} {o : Obj} {es : Array DictEntry} {ep : Nat}, s₁.heap.get? b = some o → o.data = .dict es ep → H b = none := fun {b o es ep} e dd => (track b).resolve_right fun z => by
      rw [z, hobj] at e; cases e
      cases dd
    have nsK : ∀ {b : Addr} {m : Str → Option Value}, s₁.heap.Ns b m → (hidT s₁.heap H).Ns b m := fun {b m} hm => by
      obtain ⟨o, es, ep, e, dd, r⟩ := hm
      exact ⟨o, es, ep, hidT_get e (noA e dd), dd, r⟩
    have hKb : K.In (hidT s₁.heap H) := fun b o e => hidT_get (KX b o e) (by
      cases q : H b with
      | none => rfl
      | some u =>
        have z := hA b (by rw [q]; simp)
        subst z
        rw [hK (by rw [q]; simp)] at e; cases e)
    have e0 : Env0 l.prog w K mg (hidT s₁.heap H) callerA [] s₁ H := by
      refine ⟨rfl, ⟨hKb, nsK G.T.g, ⟨mb, nsK G.T.b, G.T.builtins⟩, ?_⟩, fun b o e => of_hidT e, Nat.le_of_eq (hidT_size _ _), trivial, (fun b hb => by cases hb), hok, .of_eq hgens⟩
      obtain ⟨mc, h1, h2⟩ := G.T.nolimit
      exact ⟨mc, nsK h1, h2⟩
    have sr : StR K H [] [] := ⟨rfl, List.nodup_nil, fun n c a e _ => by simp at e⟩
    refine codeAny_mono ((hF _ hKb (nsK G.T.g)).run callerA [] s₁ H ⟨[.ref a], []⟩ [.ref a] [.ref a] [.rol (ns.map D.int)] [] [] Sn (.bl true) (fun v _ => v = .bl true) hr rfl e0 (hb s₁ (.ref a)) (.cons rfl .nil) (.cons (.rol hS (RepL.ints ns)) .nil) sr hgn
      fun v H' m' _ _ rp => by cases rp; rfl) fun r s' h => ?_
    match r, h with
    | .ok (.ret u), ⟨v, H', os, bare, un, hok', r', q⟩ =>
      have q' : v = .bl true := q
      subst q'
      obtain rfl : u = Value.bool true := r'
      refine ⟨rfl, OldK.of_keep fun b o e => ?_, os, bare⟩
      rcases hO b with z | ⟨ob, xs, z⟩
      · exact un.keep b o e z (by intro z; cases z) (by simp)
      · obtain ⟨e1, _⟩ := hok b _ z
        obtain ⟨e2, _⟩ := hok' b _ (un.frzs b ob _ z)
        rw [e] at e1; cases e1
        exact e2
  have sz : ns.length ≤ sizeLine := Nat.le_trans hlen hn2
  cases hk : K.lookup a with
  | some o =>
    have e := KX a o hk
    rw [hobj] at e
    cases e
    exact core (fun _ => none) (fun _ => .inl rfl) (.inr ⟨vs.toArray, _, hk, by rw [List.size_toArray, lenV]; exact sz, by simpa using rv⟩) (fun b u z => by cases z) (fun b z => absurd rfl z) fun z => absurd rfl z
  | none =>
    have sing : ∀ b : Addr, b ≠ a → upd (fun _ => none) a (HO.frz { cls := .type "list", data := .seq vs.toArray } (.lst (ns.map V.int))) b = none := fun b h => upd_ne h
    refine core (upd (fun _ => none) a (.frz { cls := .type "list", data := .seq vs.toArray } (.lst (ns.map V.int)))) (fun b => ?_) (.inl ⟨_, upd_same⟩) (fun b u z => ?_) (fun b z => ?_) fun _ => hk
    · by_cases h : b = a
      · subst h; exact .inr ⟨_, _, upd_same⟩
      · exact .inl (sing b h)
    · by_cases h : b = a
      · subst h; rw [upd_same] at z; cases z
        exact ⟨hobj, by rw [List.length_map]; exact sz, vs, _, rv, hobj⟩
      · rw [sing b h] at z; cases z
    · by_cases h : b = a
      · exact h
      · exact absurd (sing b h) z

/-! ### facts of the heap -/
mutual
def okV (K : PySem.W.Frag) : Nat → Value → D → Bool
  | _, .none, .non => true
  | _, .bool b, .bl c => b == c
  | _, .int i _, .int j => decide (i = j)
  | _, .str x _, .str y => decide (x = y)
  | n + 1, .ref a, .tup ds => match K.lookup a with
    | some o => decide (o.cls = .type "tuple") && (match o.data with
      | .seq its _ => Nat.ble its.size sizeLine && okL K n its.toList ds
      | _ => false)
    | none => false
  | _, _, _ => false
def okL (K : PySem.W.Frag) : Nat → List Value → List D → Bool
  | _, [], [] => true
  | n, v :: vs, d :: ds => okV K n v d && okL K n vs ds
  | _, _, _ => false
end
mutual
theorem okV_ok {K : PySem.W.Frag} : ∀ (n : Nat) (u : Value) (d : D), okV K n u d = true → Wv K u d := by
  intro n u d h
  unfold okV at h
  split at h
  · exact ⟨.non, rfl, fun _ _ => .non⟩
  · rename_i b c
    have e : b = c := by simpa using h
    subst e
    exact ⟨.bl b, rfl, fun _ _ => .bl b⟩
  · rename_i i t j
    have e : i = j := of_decide_eq_true h
    subst e
    exact ⟨.int i, ⟨t, rfl⟩, fun _ _ => .int i⟩
  · rename_i x t y
    have e : x = y := of_decide_eq_true h
    subst e
    exact ⟨.str x, ⟨t, rfl⟩, fun _ _ => .str x⟩
  · rename_i n a ds
    split at h
    · rename_i o hl
      rw [Bool.and_eq_true] at h
      obtain ⟨h1, h2⟩ := h
      have hc := of_decide_eq_true h1
      split at h2
      · rename_i its k hd
        rw [Bool.and_eq_true] at h2
        obtain ⟨vs, r, q⟩ := okL_ok n its.toList ds h2.2
        exact ⟨.ref a, rfl, fun H m => .tup (.inr ⟨o, its, k, hl, hc, hd, Nat.le_of_ble_eq_true h2.1, r⟩) (q H m)⟩
      · cases h2
    · cases h
  · cases h
termination_by n u d => (n, 0)
decreasing_by all_goals simp_wf; omega
theorem okL_ok {K : PySem.W.Frag} : ∀ (n : Nat) (us : List Value) (ds : List D), okL K n us ds = true → ∃ vs, Vals vs us ∧ ∀ (H : Hp) (m : List Addr), RepL K H m ds vs
  | _, [], [], _ => ⟨[], .nil, fun _ _ => .nil⟩
  | n, u :: us, d :: ds, h => by
    unfold okL at h
    rw [Bool.and_eq_true] at h
    obtain ⟨v, r, q⟩ := okV_ok n u d h.1
    obtain ⟨vs, r', q'⟩ := okL_ok n us ds h.2
    exact ⟨v :: vs, .cons r r', fun H m => .cons (q H m) (q' H m)⟩
  | _, [], _ :: _, h => by unfold okL at h; cases h
  | _, _ :: _, [], h => by unfold okL at h; cases h
termination_by n us ds => (n, us.length + 1)
decreasing_by all_goals simp_wf; omega
end

/-! ### the hook -/
/-- a constant of the module that is data; a table: text keys, data -/
abbrev CoD : Type := Str × D
abbrev TaD : Type := Str × List (Str × D)
def coB (K : PySem.W.Frag) (c : CoD) : Bool := match PySem.W.nsIn K mainGlobals c.1 with
  | some (some u) => okV K 8 u c.2
  | _ => false
def taB (K : PySem.W.Frag) (c : TaD) : Bool := (match PySem.W.nsIn K mainGlobals c.1 with
  | some (some u) => decide (u = .ref (He.ga K c.1))
  | _ => false) && c.2.all fun p => match PySem.W.nsIn K (He.ga K c.1) p.1 with
    | some (some u) => okV K 8 u p.2
    | _ => false
def sysB (K : PySem.W.Frag) : Bool := match K.lookup sysModules with
  | some o => decide (o.cls = .type "dict")
  | none => false
theorem sysB_ok {K : PySem.W.Frag} (h : sysB K = true) : SysK K := by
  unfold sysB at h
  split at h
  · rename_i o e; exact ⟨o, e, of_decide_eq_true h⟩
  · cases h
theorem coB_ok {K : PySem.W.Frag} {h : Heap} {mg : Str → Option Value} {x : Str} {d : D} (X : K.In h) (G : h.Ns mainGlobals mg) (c : coB K (x, d) = true) : Kv K mg x d := by
  unfold coB at c
  split at c
  · rename_i u e; exact kv_of X G e (okV_ok 8 u d c)
  · cases c
abbrev AlX : Type := He.Al × Bool × List (Option (List (Option (Str × Int))))
def frX (n : Nat) (g : Addr → Option Obj) : PySem.W.Frag := He.frG g (sysModules :: He.asG g n)
def obsX (fa : List He.Fa) (fn : List He.FnD) (co : List CoD) (ta : List TaD) (K : PySem.W.Frag) : AlX := (He.obsE fa fn K, (co.all (coB K) && (ta.all (taB K) && sysB K)), ta.map fun t => He.dicW K (He.ga K t.1))
def valX (fn : List He.FnD) (ta : List TaD) (w : World) : AlX := (He.valE fn, true, ta.map fun t => some (He.keysIn w.params (t.2.map Prod.fst)))
def obsXG (n : Nat) (fa : List He.Fa) (fn : List He.FnD) (co : List CoD) (ta : List TaD) (g : Addr → Option Obj) : AlX := obsX fa fn co ta (frX n g)
def SaysX (fa : List He.Fa) (fn : List He.FnD) (co : List CoD) (ta : List TaD) (w : World) (K : PySem.W.Frag) : Prop := obsX fa fn co ta K = valX fn ta w
def hookX (n : Nat) (fa : List He.Fa) (fn : List He.FnD) (co : List CoD) (ta : List TaD) : PySem.W.Hook where
  α := AlX
  obs := fun s => obsXG n fa fn co ta s.heap.get?
  val := fun w => valX fn ta w
  says := fun w h => ∃ K : PySem.W.Frag, K.In h ∧ SaysX fa fn co ta w K
  of := fun _ _ e => ⟨_, He.frG_in, e⟩
  keeps := fun _ _ _ ⟨K, hK, c⟩ k => ⟨K, PySem.W.Frag.In.keeps hK k, c⟩
theorem obsXG_eq {n : Nat} {fa : List He.Fa} {fn : List He.FnD} {co : List CoD} {ta : List TaD} {g : Addr → Option Obj} {s : Shared} (h : ∀ a, g a = s.heap.get? a) : obsXG n fa fn co ta g = (hookX n fa fn co ta).obs s := by
  have e : g = s.heap.get? := funext h
  rw [e] <;> rfl
section
variable {fa : List He.Fa} {fn : List He.FnD} {co : List CoD} {ta : List TaD} {w : World} {K : PySem.W.Frag} {h : Heap} {mg : Str → Option Value}
theorem SaysX.e (c : SaysX fa fn co ta w K) : He.SaysE fa fn K := congrArg (fun z : AlX => z.1) c
theorem SaysX.bs (c : SaysX fa fn co ta w K) : co.all (coB K) = true ∧ ta.all (taB K) = true ∧ sysB K = true := by
  have e : (co.all (coB K) && (ta.all (taB K) && sysB K)) = true := congrArg (fun z : AlX => z.2.1) c
  rw [Bool.and_eq_true, Bool.and_eq_true] at e
  exact e
theorem SaysX.sys (c : SaysX fa fn co ta w K) : SysK K := sysB_ok c.bs.2.2
theorem SaysX.free (c : SaysX fa fn co ta w K) (X : K.In h) (G : h.Ns mainGlobals mg) (i : Nat) {x : Str} (e : fa[i]? = some (.free x) := by rfl) : mg x = none := He.free_ok X G (c.e.fact i e)
theorem SaysX.con (c : SaysX fa fn co ta w K) (X : K.In h) (G : h.Ns mainGlobals mg) (i : Nat) {x : Str} {d : D} (e : co[i]? = some (x, d) := by rfl) : Kv K mg x d := coB_ok X G (List.all_eq_true.mp c.bs.1 _ (List.mem_of_getElem? e))
theorem SaysX.tab (c : SaysX fa fn co ta w K) (X : K.In h) (G : h.Ns mainGlobals mg) (i : Nat) {x : Str} {tab : List (Str × D)} (e : ta[i]? = some (x, tab) := by rfl) : KTab K w mg x tab := by
  have b := List.all_eq_true.mp c.bs.2.1 _ (List.mem_of_getElem? e)
  unfold taB at b
  rw [Bool.and_eq_true] at b
  obtain ⟨b1, b2⟩ := b
  have n1 : PySem.W.nsIn K mainGlobals x = some (some (.ref (He.ga K x))) := by
    split at b1
    · rename_i u q; rw [q, of_decide_eq_true b1]
    · cases b1
  have e1 : ta.map (fun t => He.dicW K (He.ga K t.1)) = ta.map fun t => some (He.keysIn w.params (t.2.map Prod.fst)) := congrArg (fun z : AlX => z.2.2) c
  have e2 : (ta.map fun t => He.dicW K (He.ga K t.1))[i]? = (ta.map fun t => some (He.keysIn w.params (t.2.map Prod.fst)))[i]? := by rw [e1]
  rw [List.getElem?_map, List.getElem?_map, e] at e2
  refine ktab_of X G n1 (Option.some.inj e2) fun p hp => ?_
  have b3 := List.all_eq_true.mp b2 p hp
  split at b3
  · rename_i u q; exact ⟨u, q, okV_ok 8 u p.2 b3⟩
  · cases b3
theorem SaysX.at_ (c : SaysX fa fn co ta w K) (i j : Nat) {x : Str} {st : Stmt} (e : fn[i]? = some ⟨(x, none), x, x, defArgs st, defBody st, defScope st⟩ := by rfl) (e1 : fa[j]? = some (.glo x) := by rfl) (e2 : fa[j + 1]? = some (.keep x) := by rfl) : ∃ f fd, At K x st f fd := by
  obtain ⟨oc, od, osl, kV, doc, pm, an, cdv, ct, hl, hc⟩ := c.e.def_ i e
  exact ⟨_, _, He.eqO_ok (c.e.fact j e1), ⟨⟨oc, od, kV, doc, pm, an, cdv, ct, osl, rfl, hl, hc⟩, He.keep_ok (c.e.fact (j + 1) e2)⟩⟩
end
end DD

/-! Data without cells, of small size: what repr tells. -/
namespace DD
open PySem PySem.Spec PyProof.Rows L2
def keyB : Key → Bool
  | .inl i => decide (i.natAbs < 2 ^ 250)
  | .inr x => x.cps.toList.all fun c => decide (c < 1114112)
def keyW : Key → Nat
  | .inl _ => 302
  | .inr x => x.cps.size + 2
mutual
/-- no cells, no great ints, no signs beyond -/
def fitD : D → Bool
  | .int i => decide (i.natAbs < 2 ^ 250)
  | .str x => x.cps.toList.all fun c => decide (c < 1114112)
  | .tup ds => fitL ds
  | .rol ds => fitL ds
  | .rod ks ds => (ks.all keyB) && fitL ds && decide (ks.length = ds.length)
  | .loc _ => false
  | _ => true
def fitL : List D → Bool
  | [] => true
  | d :: ds => fitD d && fitL ds
end
mutual
def wtD : D → Nat
  | .int i => if i.natAbs < 1024 then 10 else 300
  | .str x => x.cps.size
  | .tup ds => wtL ds
  | .rol ds => wtL ds
  | .rod ks ds => (ks.map keyW).sum + wtL ds
  | _ => 0
def wtL : List D → Nat
  | [] => 0
  | d :: ds => wtD d + 1 + wtL ds
end
mutual
def dpD : D → Nat
  | .tup ds => dpL ds + 1
  | .rol ds => dpL ds + 1
  | .rod _ ds => dpL ds + 1
  | _ => 0
def dpL : List D → Nat
  | [] => 0
  | d :: ds => max (dpD d) (dpL ds)
end
mutual
def pyD : D → PyData
  | .non => .none
  | .bl b => .bool b
  | .int i => .int i
  | .str x => .str x
  | .tup ds => .tuple (pyL ds)
  | .rol ds => .list (pyL ds)
  | .rod ks ds => .dict ((ks.map keyP).zip (pyL ds))
  | .loc _ => .none
def pyL : List D → List PyData
  | [] => []
  | d :: ds => pyD d :: pyL ds
end
@[simp] theorem fitD_tup {ds : List D} : fitD (.tup ds) = fitL ds := by simp [fitD]
@[simp] theorem fitD_rol {ds : List D} : fitD (.rol ds) = fitL ds := by simp [fitD]
@[simp] theorem fitD_non : fitD .non = true := by simp [fitD]
@[simp] theorem fitD_bl {b : Bool} : fitD (.bl b) = true := by simp [fitD]
theorem fitD_int {i : Int} : fitD (.int i) = decide (i.natAbs < 2 ^ 250) := by simp [fitD]
theorem fitD_str {x : Str} : fitD (.str x) = x.cps.toList.all fun c => decide (c < 1114112) := by simp [fitD]
@[simp] theorem fitL_nil : fitL [] = true := by simp [fitL]
@[simp] theorem fitL_cons {d : D} {ds : List D} : fitL (d :: ds) = (fitD d && fitL ds) := by simp [fitL]
@[simp] theorem fitL_app : ∀ {ds es : List D}, fitL (ds ++ es) = (fitL ds && fitL es)
  | [], _ => by simp
  | d :: ds, es => by simp [fitL_app (ds := ds), Bool.and_assoc]
theorem fitL_all : ∀ {ds : List D}, fitL ds = true ↔ ∀ d ∈ ds, fitD d = true
  | [] => by simp
  | d :: ds => by simp [fitL_all (ds := ds)]
@[simp] theorem wtD_tup {ds : List D} : wtD (.tup ds) = wtL ds := by simp [wtD]
@[simp] theorem wtD_rol {ds : List D} : wtD (.rol ds) = wtL ds := by simp [wtD]
theorem wtD_int {i : Int} : wtD (.int i) = if i.natAbs < 1024 then 10 else 300 := by simp [wtD]
theorem wt_small {i : Int} (h : i.natAbs < 1024) : wtD (.int i) = 10 := by rw [wtD_int, if_pos h]
theorem wt_int_le {i : Int} : wtD (.int i) ≤ 300 := by rw [wtD_int]; split <;> omega
@[simp] theorem wtD_str {x : Str} : wtD (.str x) = x.cps.size := by simp [wtD]
@[simp] theorem wtD_non : wtD .non = 0 := by simp [wtD]
@[simp] theorem wtD_bl {b : Bool} : wtD (.bl b) = 0 := by simp [wtD]
@[simp] theorem wtL_nil : wtL [] = 0 := by simp [wtL]
@[simp] theorem wtL_cons {d : D} {ds : List D} : wtL (d :: ds) = wtD d + 1 + wtL ds := by simp [wtL]
@[simp] theorem wtL_app : ∀ {ds es : List D}, wtL (ds ++ es) = wtL ds + wtL es
  | [], _ => by simp
  | d :: ds, es => by simp [wtL_app (ds := ds)]; omega
theorem wtL_most {k : Nat} : ∀ {ds : List D}, (∀ d ∈ ds, wtD d ≤ k) → wtL ds ≤ ds.length * (k + 1)
  | [], _ => by simp
  | d :: ds, h => by
    have h1 := h d (by simp)
    have h2 := wtL_most fun e he => h e (List.mem_cons_of_mem _ he)
    simp only [wtL_cons, List.length_cons, Nat.succ_mul]
    omega
@[simp] theorem dpD_tup {ds : List D} : dpD (.tup ds) = dpL ds + 1 := by simp [dpD]
@[simp] theorem dpD_rol {ds : List D} : dpD (.rol ds) = dpL ds + 1 := by simp [dpD]
@[simp] theorem dpD_int {i : Int} : dpD (.int i) = 0 := by simp [dpD]
@[simp] theorem dpD_str {x : Str} : dpD (.str x) = 0 := by simp [dpD]
@[simp] theorem dpD_non : dpD .non = 0 := by simp [dpD]
@[simp] theorem dpD_bl {b : Bool} : dpD (.bl b) = 0 := by simp [dpD]
@[simp] theorem dpL_nil : dpL [] = 0 := by simp [dpL]
@[simp] theorem dpL_cons {d : D} {ds : List D} : dpL (d :: ds) = max (dpD d) (dpL ds) := by simp [dpL]
theorem dpL_most {k : Nat} : ∀ {ds : List D}, (∀ d ∈ ds, dpD d ≤ k) → dpL ds ≤ k
  | [], _ => by simp
  | d :: ds, h => by
    have h1 := h d (by simp)
    have h2 := dpL_most fun e he => h e (List.mem_cons_of_mem _ he)
    simp only [dpL_cons]
    omega
mutual
theorem fitD_sc {n : Nat} : ∀ d : D, fitD d = true → scD n d = true
  | .non, _ => by simp
  | .bl _, _ => by simp
  | .int _, _ => by simp
  | .str _, _ => by simp
  | .tup ds, h => by simp at h ⊢; exact fitL_sc ds h
  | .rol ds, h => by simp at h ⊢; exact fitL_sc ds h
  | .rod ks ds, h => by
    simp only [fitD, Bool.and_eq_true] at h
    simp
    exact fitL_sc ds h.1.2
  | .loc _, h => by simp [fitD] at h
theorem fitL_sc {n : Nat} : ∀ ds : List D, fitL ds = true → scL n ds = true
  | [], _ => by simp
  | d :: ds, h => by
    simp at h ⊢
    exact ⟨fitD_sc d h.1, fitL_sc ds h.2⟩
end
theorem shown_int300 {i : Int} (h : i.natAbs < 2 ^ 250) : (PyData.shown (.int i)).length ≤ 100 := by
  have e := int_text_length_le10 (k := 91) (by decide) (Nat.lt_of_lt_of_le h (by decide +kernel))
  show (Str.ofString (toString i)).length ≤ 100
  rw [PySem.ofString_length]; omega
mutual
theorem toPy_ok {S : Sto} : ∀ (d : D) (n : Nat), fitD d = true → dpD d ≤ n → toPyR n S d = some (pyD d)
  | .non, n, _, _ => by cases n <;> simp [toPyR, pyD]
  | .bl b, n, _, _ => by cases n <;> simp [toPyR, pyD]
  | .int i, n, _, _ => by cases n <;> simp [toPyR, pyD]
  | .str x, n, _, _ => by cases n <;> simp [toPyR, pyD]
  | .tup ds, 0, _, h => by simp at h
  | .tup ds, n + 1, h, hn => by
    simp at h hn
    simp [toPyR, pyD, toPyL_ok ds n h hn]
  | .rol ds, 0, _, h => by simp at h
  | .rol ds, n + 1, h, hn => by
    simp at h hn
    simp [toPyR, pyD, toPyL_ok ds n h hn]
  | .rod ks ds, 0, _, h => by simp [dpD] at h
  | .rod ks ds, n + 1, h, hn => by
    simp only [fitD, Bool.and_eq_true] at h
    simp [dpD] at hn
    simp [toPyR, pyD, toPyL_ok ds n h.1.2 hn]
  | .loc _, _, h, _ => by simp [fitD] at h
theorem toPyL_ok {S : Sto} : ∀ (ds : List D) (n : Nat), fitL ds = true → dpL ds ≤ n → mapO (toPyR n S) ds = some (pyL ds)
  | [], n, _, _ => by simp [mapO, pyL]
  | d :: ds, n, h, hn => by
    simp at h hn
    simp [mapO, pyL, toPy_ok d n h.1 (by omega), toPyL_ok ds n h.2 (by omega)]
end
theorem pyL_len : ∀ ds : List D, (pyL ds).length = ds.length
  | [] => by simp [pyL]
  | d :: ds => by simp [pyL, pyL_len ds]
theorem log300 {i : Int} (h : i.natAbs < 2 ^ 250) : i.natAbs.log2 < 250 := by
  by_cases q : i.natAbs = 0
  · rw [q]; decide
  · exact (Nat.log2_lt q).mpr h
theorem str_short {x : Str} (h : (x.cps.toList.all fun c => decide (c < 1114112)) = true) : (x.cps.toList.all fun c => decide (c < 16 ^ 8)) = true := List.all_eq_true.mpr fun c hc => by
  have := List.all_eq_true.mp h c hc
  simp at this ⊢
  omega
theorem keyP_ok (ks : List Key) (h : (ks.all keyB) = true) : ∀ k ∈ ks, PyData.leavesShort 100 (keyP k) = true ∧ PyData.showable (keyP k) = true ∧ PyData.depth (keyP k) = 0 := by
  intro k hk
  have := List.all_eq_true.mp h k hk
  cases k with
  | inl i =>
    have hi : i.natAbs < 2 ^ 250 := by simpa [keyB] using this
    have := log300 hi
    exact ⟨by simp only [keyP, PyData.leavesShort, decide_eq_true_eq]; exact shown_int300 hi, by simp only [keyP, PyData.showable, decide_eq_true_eq]; omega, by simp [keyP, PyData.depth]⟩
  | inr x => exact ⟨by simpa [keyP, PyData.leavesShort] using str_short (by simpa [keyB] using this), by simp [keyP, PyData.showable], by simp [keyP, PyData.depth]⟩
theorem pyKv_ok : ∀ (ks : List Key) (ps : List PyData), ks.length = ps.length → (ks.all keyB) = true → PyData.leavesShortAll 100 ps = true → PyData.showableAll ps = true →
    PyData.leavesShortKv 100 ((ks.map keyP).zip ps) = true ∧ PyData.showableKv ((ks.map keyP).zip ps) = true ∧ PyData.depthKv ((ks.map keyP).zip ps) ≤ PyData.depthAll ps ∧ PyData.weightKv ((ks.map keyP).zip ps) ≤ (ks.map keyW).sum + PyData.weightAll ps
  | [], [], _, _, _, _ => by simp [PyData.leavesShortKv, PyData.showableKv, PyData.depthKv, PyData.weightKv, PyData.depthAll, PyData.weightAll]
  | k :: ks, p :: ps, h, hk, h1, h2 => by
    obtain ⟨q1, q2, q3⟩ := keyP_ok _ hk k (by simp)
    have hk' : (ks.all keyB) = true := List.all_eq_true.mpr fun x hx => List.all_eq_true.mp hk x (List.mem_cons_of_mem _ hx)
    have h1' : PyData.leavesShort 100 p = true ∧ PyData.leavesShortAll 100 ps = true := by simpa [PyData.leavesShortAll] using h1
    have h2' : PyData.showable p = true ∧ PyData.showableAll ps = true := by simpa [PyData.showableAll] using h2
    obtain ⟨r1, r2, r3, r4⟩ := pyKv_ok ks ps (by simpa using h) hk' h1'.2 h2'.2
    refine ⟨by simp [PyData.leavesShortKv, q1, h1'.1, r1], by simp [PyData.showableKv, q2, h2'.1, r2], ?_, ?_⟩
    · simp only [List.map_cons, List.zip_cons_cons, PyData.depthKv, PyData.depthAll, q3]; omega
    · simp only [List.map_cons, List.zip_cons_cons, PyData.weightKv, PyData.weightAll, List.sum_cons]
      have kw : (keyP k).weight + 2 ≤ keyW k := by
        cases k with
        | inl i =>
          have hi : i.natAbs < 2 ^ 250 := by simpa [keyB] using List.all_eq_true.mp hk (.inl i) (by simp)
          have := log300 hi
          simp only [keyP, PyData.weight, keyW]
          split <;> omega
        | inr x => simp [keyP, PyData.weight, keyW]
      omega
  | [], _ :: _, h, _, _, _ => by simp at h
  | _ :: _, [], h, _, _, _ => by simp at h
mutual
theorem py_ok : ∀ d : D, fitD d = true → PyData.leavesShort 100 (pyD d) = true ∧ PyData.showable (pyD d) = true ∧ (pyD d).depth ≤ dpD d ∧ (pyD d).weight ≤ wtD d
  | .non, _ => by simp [pyD, PyData.leavesShort, PyData.showable, PyData.depth, PyData.weight]
  | .bl b, _ => by simp [pyD, PyData.leavesShort, PyData.showable, PyData.depth, PyData.weight]
  | .int i, h => by
    have hi : i.natAbs < 2 ^ 250 := by simpa [fitD_int] using h
    have := log300 hi
    refine ⟨by simp only [pyD, PyData.leavesShort, decide_eq_true_eq]; exact shown_int300 hi, by simp only [pyD, PyData.showable, decide_eq_true_eq]; omega, by simp [pyD, PyData.depth], ?_⟩
    simp only [pyD, PyData.weight, wtD_int]
    by_cases q : i.natAbs < 1024
    · rw [if_pos q]
      split
      · omega
      · rename_i g
        have := (Nat.log2_lt (n := i.natAbs) (k := 10) (by intro q; apply g; simp; omega)).mpr (by simpa using q)
        omega
    · rw [if_neg q]
      split <;> omega
  | .str x, h => by
    rw [fitD_str] at h
    exact ⟨by simpa [pyD, PyData.leavesShort] using str_short h, by simp [pyD, PyData.showable], by simp [pyD, PyData.depth], by simp [pyD, PyData.weight]⟩
  | .tup ds, h => by
    simp at h
    obtain ⟨h1, h2, h3, h4⟩ := pyL_ok ds h
    exact ⟨by simpa [pyD, PyData.leavesShort] using h1, by simpa [pyD, PyData.showable] using h2, by simp only [pyD, PyData.depth, dpD_tup]; omega, by simp only [pyD, PyData.weight, wtD_tup]; omega⟩
  | .rol ds, h => by
    simp at h
    obtain ⟨h1, h2, h3, h4⟩ := pyL_ok ds h
    exact ⟨by simpa [pyD, PyData.leavesShort] using h1, by simpa [pyD, PyData.showable] using h2, by simp only [pyD, PyData.depth, dpD_rol]; omega, by simp only [pyD, PyData.weight, wtD_rol]; omega⟩
  | .rod ks ds, h => by
    simp only [fitD, Bool.and_eq_true, decide_eq_true_eq] at h
    obtain ⟨h1, h2, h3, h4⟩ := pyL_ok ds h.1.2
    obtain ⟨k1, k2, k3, k4⟩ := pyKv_ok ks (pyL ds) (by rw [pyL_len]; exact h.2) h.1.1 h1 h2
    exact ⟨by simpa [pyD, PyData.leavesShort] using k1, by simpa [pyD, PyData.showable] using k2, by simp only [pyD, PyData.depth, dpD]; omega, by simp only [pyD, PyData.weight, wtD]; omega⟩
  | .loc _, h => by simp [fitD] at h
theorem pyL_ok : ∀ ds : List D, fitL ds = true → PyData.leavesShortAll 100 (pyL ds) = true ∧ PyData.showableAll (pyL ds) = true ∧ PyData.depthAll (pyL ds) ≤ dpL ds ∧ PyData.weightAll (pyL ds) ≤ wtL ds
  | [], _ => by simp [pyL, PyData.leavesShortAll, PyData.showableAll, PyData.depthAll, PyData.weightAll]
  | d :: ds, h => by
    simp at h
    obtain ⟨a1, a2, a3, a4⟩ := py_ok d h.1
    obtain ⟨b1, b2, b3, b4⟩ := pyL_ok ds h.2
    refine ⟨by simp [pyL, PyData.leavesShortAll, a1, b1], by simp [pyL, PyData.showableAll, a2, b2], ?_, ?_⟩
    · simp only [pyL, PyData.depthAll, dpL_cons]; omega
    · simp only [pyL, PyData.weightAll, wtL_cons]; omega
end
/-! ### == of data without dicts -/
mutual
def noD : D → Bool
  | .tup ds => noL ds
  | .rol ds => noL ds
  | .rod _ _ => false
  | _ => true
def noL : List D → Bool
  | [] => true
  | d :: ds => noD d && noL ds
end
@[simp] theorem noD_tup {ds : List D} : noD (.tup ds) = noL ds := by simp [noD]
@[simp] theorem noD_rol {ds : List D} : noD (.rol ds) = noL ds := by simp [noD]
@[simp] theorem noD_int {i : Int} : noD (.int i) = true := by simp [noD]
@[simp] theorem noD_str {i : Str} : noD (.str i) = true := by simp [noD]
@[simp] theorem noD_bl {i : Bool} : noD (.bl i) = true := by simp [noD]
@[simp] theorem noD_non : noD .non = true := by simp [noD]
@[simp] theorem noL_nil : noL [] = true := by simp [noL]
@[simp] theorem noL_cons {d : D} {ds : List D} : noL (d :: ds) = (noD d && noL ds) := by simp [noL]
theorem noL_all : ∀ {ds : List D}, noL ds = true ↔ ∀ d ∈ ds, noD d = true
  | [] => by simp
  | d :: ds => by simp [noL_all (ds := ds)]
mutual
theorem py_lay {S : Sto} : ∀ (d : D) (n : Nat), fitD d = true → noD d = true → dpD d ≤ n → toPy n S d = some (pyD d) ∧ (pyD d).canLay0 = true
  | .non, n, _, _, _ => by cases n <;> simp [toPy, pyD, PyData.canLay0]
  | .bl b, n, _, _, _ => by cases n <;> simp [toPy, pyD, PyData.canLay0]
  | .int i, n, _, _, _ => by cases n <;> simp [toPy, pyD, PyData.canLay0]
  | .str x, n, h, _, _ => by
    rw [fitD_str] at h
    cases n <;> simp [toPy, pyD, PyData.canLay0, PyData.strOk] <;> simpa using h
  | .tup ds, 0, _, _, h => by simp at h
  | .tup ds, n + 1, h, h', hn => by
    simp at h h' hn
    obtain ⟨a, b⟩ := py_layL (S := S) ds n h h' hn
    simp [toPy, pyD, a, PyData.canLay0, b]
  | .rol ds, 0, _, _, h => by simp at h
  | .rol ds, n + 1, h, h', hn => by
    simp at h h' hn
    obtain ⟨a, b⟩ := py_layL (S := S) ds n h h' hn
    simp [toPy, pyD, a, PyData.canLay0, b]
  | .rod ks ds, _, _, h, _ => by simp [noD] at h
  | .loc _, _, h, _, _ => by simp [fitD] at h
theorem py_layL {S : Sto} : ∀ (ds : List D) (n : Nat), fitL ds = true → noL ds = true → dpL ds ≤ n → mapO (toPy n S) ds = some (pyL ds) ∧ PyData.canLayAll0 (pyL ds) = true
  | [], n, _, _, _ => by simp [mapO, pyL, PyData.canLayAll0]
  | d :: ds, n, h, h', hn => by
    simp at h h' hn
    obtain ⟨a1, a2⟩ := py_lay (S := S) d n h.1 h'.1 (by omega)
    obtain ⟨b1, b2⟩ := py_layL (S := S) ds n h.2 h'.2 (by omega)
    simp [mapO, pyL, a1, b1, PyData.canLayAll0, a2, b2]
end
/-- compared by == -/
def Lay (d : D) : Prop := fitD d = true ∧ noD d = true ∧ dpD d ≤ 60
theorem Lay.shaped {d : D} (h : Lay d) : SeqAt.shaped (pyD d) = true := by
  obtain ⟨h1, h2, h3⟩ := h
  have a := (py_lay (S := []) d 64 h1 h2 (by omega)).2
  have b := (py_ok d h1).2.2.1
  unfold SeqAt.shaped
  rw [a]
  simp; omega
theorem eqD_lay {d e : D} (hd : Lay d) (he : Lay e) (S : Sto) : eqD d e S = some (.bl (PyData.eqv (pyD d) (pyD e)), S) := by
  have a := (py_lay (S := S) d 64 hd.1 hd.2.1 (by have := hd.2.2; omega)).1
  have b := (py_lay (S := S) e 64 he.1 he.2.1 (by have := he.2.2; omega)).1
  have deep : ((toPy 64 S d).bind fun p => (toPy 64 S e).bind fun q => if SeqAt.shaped p = true ∧ SeqAt.shaped q = true then some (PyData.eqv p q) else none) = some (PyData.eqv (pyD d) (pyD e)) := by
    rw [a, b, Option.bind_some, Option.bind_some, if_pos ⟨hd.shaped, he.shaped⟩]
  unfold eqD
  have : eqB S d e = some (PyData.eqv (pyD d) (pyD e)) := by
    cases d <;> cases e <;> first | exact deep | (simp [eqB, pyD, PyData.eqv]; done) | (rename_i x y; by_cases q : x = y <;> simp [eqB, pyD, PyData.eqv, q])
  rw [this]
  rfl
theorem neD_lay {d e : D} (hd : Lay d) (he : Lay e) (S : Sto) : neD d e S = some (.bl (!PyData.eqv (pyD d) (pyD e)), S) := by
  have := eqD_lay hd he S
  unfold eqD at this
  unfold neD
  cases h : eqB S d e with
  | none => rw [h] at this; cases this
  | some b =>
    rw [h] at this
    have : D.bl b = D.bl (PyData.eqv (pyD d) (pyD e)) := congrArg Prod.fst (Option.some.inj this)
    cases this
    rfl
theorem eqv_nilR {ds : List D} : PyData.eqv (pyD (.rol ds)) (pyD (.rol [])) = ds.isEmpty := by cases ds <;> simp [pyD, pyL, PyData.eqv, PyData.eqvAll]
theorem eqv_nilT {ds : List D} : PyData.eqv (pyD (.tup ds)) (pyD (.tup [])) = ds.isEmpty := by cases ds <;> simp [pyD, pyL, PyData.eqv, PyData.eqvAll]
theorem lay_nilR : Lay (.rol []) := ⟨by simp, by simp, by simp⟩
theorem lay_nilT : Lay (.tup []) := ⟨by simp, by simp, by simp⟩
def Fit (d : D) : Prop := fitD d = true ∧ wtD d ≤ 150000 ∧ dpD d ≤ 50
def FitL (ds : List D) : Prop := fitL ds = true ∧ wtL ds ≤ 150000 ∧ dpL ds ≤ 49
def rp (d : D) : Str := (pyD d).shown
theorem rp_ok {d : D} (h : Fit d) (S : Sto) : reprX d S = some (.str (rp d), S) := by
  obtain ⟨h1, h2, h3⟩ := h
  obtain ⟨a1, a2, a3, a4⟩ := py_ok d h1
  have e := PyData.shown_le 100 (by decide) _ a1
  have sz : sizeLine = 16777216 := by decide
  unfold reprX
  rw [toPy_ok d 64 h1 (by omega), Option.bind_some, if_pos ⟨a2, by omega, by omega⟩]
  rfl
theorem Fit.sc {d : D} (h : Fit d) {n : Nat} : scD n d = true := fitD_sc d h.1
theorem FitL.rol {ds : List D} (h : FitL ds) : Fit (.rol ds) := ⟨by simpa using h.1, by simpa using h.2.1, by simp; exact h.2.2⟩
theorem FitL.tup {ds : List D} (h : FitL ds) : Fit (.tup ds) := ⟨by simpa using h.1, by simpa using h.2.1, by simp; exact h.2.2⟩
end DD

/-! Draws: a deck of cells that change, all else stays; defs that draw. -/
namespace DD
open PySem L2
theorem get_lt {α : Type} {l : List α} {i : Nat} {a : α} (h : l[i]? = some a) : i < l.length := (List.getElem?_eq_some_iff.mp h).1
theorem set_ne {α : Type} {l : List α} {i j : Nat} {a : α} (h : i ≠ j) : (l.set i a)[j]? = l[j]? := List.getElem?_set_ne h
theorem set_eq {α : Type} {l : List α} {i : Nat} {a b : α} (h : l[i]? = some b) : (l.set i a)[i]? = some a := List.getElem?_set_self (get_lt h)
/-- all but the deck's cells is as it was -/
structure FQ (own : Nat → Bool) (S S' : Sto) : Prop where
  len : S'.length = S.length
  keep : ∀ i, own i = false → S'[i]? = S[i]?
theorem FQ.refl {own : Nat → Bool} {S : Sto} : FQ own S S := ⟨rfl, fun _ _ => rfl⟩
theorem FQ.trans {own : Nat → Bool} {S S1 S2 : Sto} (a : FQ own S S1) (b : FQ own S1 S2) : FQ own S S2 := ⟨b.len.trans a.len, fun i h => (b.keep i h).trans (a.keep i h)⟩
/-- a deck: where it stands, its cells, what holds of it -/
structure Deal where
  dk : Nat
  own : Nat → Bool
  ok : Sto → Prop
  lt : ∀ {S : Sto} {i : Nat}, ok S → own i = true → i < S.length
  app : ∀ {S T : Sto}, ok S → ok (S ++ T)
  cut : ∀ {S T : Sto}, (∀ i, own i = true → i < S.length) → ok (S ++ T) → ok S
  sc : ∀ {S : Sto} {i : Nat} {c : Cell}, ok S → own i = true → S[i]? = some c → scC S.length c = true
variable {G : Deal} {S T : Sto} {E : D × Sto → Prop} {P : D → Prop} {g : Fn} {ds : List D}
theorem Deal.split {S2 : Sto} (h : G.ok S) (h2 : G.ok S2) (f : FQ G.own (S ++ T) S2) : ∃ S', S2 = S' ++ T ∧ G.ok S' ∧ FQ G.own S S' := by
  have hl : S2.length = S.length + T.length := by rw [f.len, List.length_append]
  have e2 : S2.drop S.length = T := by
    apply List.ext_getElem?
    intro i
    rw [List.getElem?_drop, f.keep (S.length + i) (by
      cases q : G.own (S.length + i) with
      | false => rfl
      | true => have := G.lt h q; omega), List.getElem?_append_right (by omega)]
    congr 1
    omega
  have e : S2.take S.length ++ T = S2 := by
    have := List.take_append_drop S.length S2
    rwa [e2] at this
  refine ⟨S2.take S.length, e.symm, G.cut (T := T) (fun i q => ?_) (by rw [e]; exact h2), by rw [List.length_take]; omega, fun i q => ?_⟩
  · have := G.lt h q
    rw [List.length_take]; omega
  · by_cases hi : i < S.length
    · rw [List.getElem?_take_of_lt hi, f.keep i q, List.getElem?_append_left hi]
    · rw [List.getElem?_eq_none (by rw [List.length_take]; omega), List.getElem?_eq_none (by omega)]
/-- a def that draws -/
def Dsp (G : Deal) (g : Fn) (ds : List D) (P : D → Prop) : Prop := ∀ S, G.ok S → wO (g ds S) fun p => P p.1 ∧ G.ok p.2 ∧ FQ G.own S p.2
theorem Dsp.at (h : Dsp G g ds P) (hS : G.ok S) (k : ∀ d S', P d → G.ok S' → FQ G.own S S' → E (d, S' ++ T)) : wO (g ds (S ++ T)) E := by
  refine (h (S ++ T) (G.app hS)).imp ?_
  rintro ⟨d, S2⟩ ⟨h1, h2, h3⟩
  obtain ⟨S', rfl, h4, h5⟩ := G.split hS h2 h3
  exact k d S' h1 h4 h5
theorem Dsp.at0 (h : Dsp G g ds P) (hS : G.ok S) (k : ∀ d S', P d → G.ok S' → FQ G.own S S' → E (d, S')) : wO (g ds S) E := by
  refine (h S hS).imp ?_
  rintro ⟨d, S2⟩ ⟨h1, h2, h3⟩
  exact k d S2 h1 h2 h3
theorem Dsp.imp {P' : D → Prop} (h : Dsp G g ds P) (w : ∀ d, P d → P' d) : Dsp G g ds P' := fun S hS => (h S hS).imp fun p q => ⟨w _ q.1, q.2⟩
/-- no cells -/
def lf (d : D) : Prop := ∀ n, scD n d = true
def lfL (ds : List D) : Prop := ∀ n, scL n ds = true
theorem lf_fit {d : D} (h : fitD d = true) : lf d := fun n => fitD_sc d h
/-- behind a def's body: its own cells T are forgotten -/
def Ret (G : Deal) (S : Sto) (P : D → Prop) (p : D × Sto) : Prop := ∃ S' T d, p.2 = S' ++ T ∧ G.ok S' ∧ FQ G.own S S' ∧ P d ∧ lf d ∧ (p.1 = d ∨ ∃ j es, p.1 = .loc (S.length + j) ∧ T[j]? = some (.lst es) ∧ d = .rol es)
theorem Ret.val {d : D} {S' T : Sto} (h : G.ok S') (f : FQ G.own S S') (hP : P d) (hl : lf d) : Ret G S P (d, S' ++ T) := ⟨S', T, d, rfl, h, f, hP, hl, .inl rfl⟩
theorem Ret.val0 {d : D} {S' : Sto} (h : G.ok S') (f : FQ G.own S S') (hP : P d) (hl : lf d) : Ret G S P (d, S') := ⟨S', [], d, by simp, h, f, hP, hl, .inl rfl⟩
theorem Ret.lst {j : Nat} {es : List D} {S' T : Sto} (h : G.ok S') (f : FQ G.own S S') (ht : T[j]? = some (.lst es)) (hP : P (.rol es)) (hl : lfL es) : Ret G S P (.loc (S.length + j), S' ++ T) :=
  ⟨S', T, .rol es, rfl, h, f, hP, fun n => by simpa using hl n, .inr ⟨j, es, rfl, ht, rfl⟩⟩
theorem Ret.lst0 {es : List D} {S' T : Sto} (h : G.ok S') (f : FQ G.own S S') (hP : P (.rol es)) (hl : lfL es) : Ret G S P (.loc S.length, S' ++ (.lst es :: T)) := Ret.lst (j := 0) h f rfl hP hl
theorem gc_deal {S' : Sto} (hS : G.ok S) (h : G.ok S') (f : FQ G.own S S') : gcB S.length S (S' ++ T) = true := gcB_mk (by rw [List.length_append, f.len]; omega) fun i c hi e => by
  rw [List.getElem?_append_left (by rw [f.len]; exact hi)] at e
  cases q : G.own i with
  | false => rw [f.keep i q] at e; exact .inl e
  | true => exact .inr (by have := G.sc h q e; rwa [f.len] at this)
theorem Dsp.of (h : ∀ S, G.ok S → wO (g ds S) (Ret G S P)) : Dsp G (gcZ g) ds P := fun S hS => by
  refine w_gcZ ((h S hS).imp ?_)
  rintro ⟨v, S2⟩ ⟨S', T, d, e, h1, f, hP, hl, hd⟩
  simp only at e hd
  subst e
  have ht : (S' ++ T).take S.length = S' := by rw [← f.len, List.take_left']; rfl
  refine ⟨d, ?_, gc_deal hS h1 f, by rw [ht]; exact ⟨hP, h1, f⟩⟩
  rcases hd with rfl | ⟨j, es, rfl, h2, rfl⟩
  · exact zD_of (hl _)
  · have : (S' ++ T)[S.length + j]? = some (.lst es) := by
      rw [← f.len, List.getElem?_append_right (by omega)]
      simpa using h2
    have hs := hl S.length
    simp at hs
    simp [zD, this, hs]
/-- a pure def, upon any store -/
def Pu (g : Fn) (ds : List D) (d : D) : Prop := ∀ S, g ds S = some (d, S)
theorem Pu.w (h : Pu g ds P0) {E : D × Sto → Prop} {S : Sto} : wO (g ds S) E ↔ E (P0, S) := by rw [h S, wO_some]
theorem Pu.of {d : D} (hl : lf d) (h : ∀ S, wO (g ds S) fun p => ∃ T, p = (d, S ++ T)) : Pu (gcZ g) ds d := fun S => by
  obtain ⟨p, h1, T, rfl⟩ := h S
  exact z_pure ⟨_, h1, rfl⟩ (hl _)
theorem Pu.of0 {d : D} (hl : lf d) (h : ∀ S, wO (g ds S) fun p => p = (d, S)) : Pu (gcZ g) ds d := fun S => z_pure0 (h S) (hl _)
/-- .. that makes one list and returns it -/
theorem Pu.lst {es : List D} (hl : lfL es) (h : ∀ S, wO (g ds S) fun p => ∃ T, p = (.loc S.length, S ++ (.lst es :: T))) : Pu (gcZ g) ds (.rol es) := fun S => by
  obtain ⟨p, h1, T, rfl⟩ := h S
  unfold gcZ
  rw [h1]
  simp [zD, hl S.length]
end DD

/-! The first deck of the laws: a dict of great digits and a number. -/
namespace DD
open PySem L2
def A_deck (c0 : Int) : Fn := mkFn 1 5 (mSeq (mAsg (mDict2 "deep" "state" (mLstX false mNil) (m2 (addX false) (mC (.int c0)) (m1 lenD (mCons (mSlX true (mV 0) mNoP (mP (mC (.int 63)))) mNil)))) (gN 1))
  (mSeq (mFor (mI (mSlX true (mV 0) mNoP (mP (mC (.int 63))))) (gN 2) (mSeq (mAsg (m1 absD (mCons (mV 2) mNil)) (gN 3))
  (mSeq (mIte (mB (m2 geD (mV 3) (m2 powD (mC (.int 10)) (mC (.int 18))))) (mPut (m2 (addX false) (mLstX true (mCons (mV 3) mNil)) (m2 ixD (mV 1) (mC (.str "deep")))) (mV 1) (mC (.str "deep"))) mSkip)
  (mSeq (mAsg (m2 (addX true) (m2 mulD (m2 (addX true) (m2 (addX true) (m2 (addX true) (m2 ixD (mV 1) (mC (.str "state"))) (m2 mulD (mC (.int 2)) (mV 3))) (m1 toIntD (mCons (m2 ltD (mV 2) (mC (.int 0))) mNil))) (mC (.int 1))) (mC (.int 1181783497276652981))) (mC (.int 521288629))) (gN 4))
  (mPut (m2 modD (m1 toIntD (mCons (mV 4) mNil)) (mC (.int 2305843009213693951))) (mV 1) (mC (.str "state")))))))
  (mRet (mV 1))))
def A_draw : Fn := mkFn 2 5 (mSeq (mIte (mB (m2 ltD (mV 1) (mC (.int 2)))) (mRet (mC (.int 0))) mSkip)
  (mSeq (mIte (mB (m2 neD (m2 ixD (mV 0) (mC (.str "deep"))) (mLstX true mNil))) (mSeq (mAsg (mMeth0 popD (m2 ixD (mV 0) (mC (.str "deep")))) (gN 2))
  (mSeq (mIte (mB (m2 geD (mV 2) (mV 1))) (mDo (mMeth1 appD (m2 ixD (mV 0) (mC (.str "deep"))) (mCons (m2 fdivD (mV 2) (mV 1)) mNil))) mSkip)
  (mRet (m2 modD (m1 toIntD (mCons (mV 2) mNil)) (mV 1))))) mSkip)
  (mSeq (mAsg (m2 modD (m1 toIntD (mCons (m2 (addX true) (m2 mulD (m2 ixD (mV 0) (mC (.str "state"))) (mC (.int 1181783497276652981))) (mC (.int 88172645463325))) mNil)) (mC (.int 2305843009213693951))) (gN 3))
  (mSeq (mPut (mV 3) (mV 0) (mC (.str "state")))
  (mSeq (mAsg (m2 modD (m1 toIntD (mCons (m2 (addX true) (m2 (addX true) (m2 mulD (mV 3) (mV 3)) (m2 mulD (mC (.int 374761393)) (mV 3))) (mC (.int 11))) mNil)) (mC (.int 2305843009213693921))) (gN 4))
  (mRet (m2 modD (m1 toIntD (mCons (m2 fdivD (mV 4) (mC (.int 1048576))) mNil)) (mV 1))))))))
def A_pick (draw : Fn) : Fn := mkFn 2 2 (mRet (m2 ixD (mV 1) (mCall draw (mCons (mV 0) (mCons (m1 lenD (mCons (mV 1) mNil)) mNil)))))
abbrev deckL (l : Nat) (s : Int) : List (Key × D) := [(.inr "deep", .loc l), (.inr "state", .int s)]
theorem ne_ds : ¬ ((("deep" : Str)) = ("state" : Str)) := by decide +kernel
theorem ne_sd : ¬ ((("state" : Str)) = ("deep" : Str)) := by decide +kernel
theorem get_deep (x y : D) : getK [(.inr "deep", x), (.inr "state", y)] (.inr "deep") = some x := by
  unfold getK
  rw [List.find?_cons_of_pos (by simp)]
  rfl
theorem get_state (x y : D) : getK [(.inr "deep", x), (.inr "state", y)] (.inr "state") = some y := by
  unfold getK
  rw [List.find?_cons_of_neg (by simp [ne_ds]), List.find?_cons_of_pos (by simp)]
  rfl
theorem put_deep (x y z : D) : putD [(.inr "deep", x), (.inr "state", y)] (.inr "deep") z = [(.inr "deep", z), (.inr "state", y)] := by
  unfold putD
  rw [if_pos (by simp)]
  simp [ne_sd]
theorem put_state (x y z : D) : putD [(.inr "deep", x), (.inr "state", y)] (.inr "state") z = [(.inr "deep", x), (.inr "state", z)] := by
  unfold putD
  rw [if_pos (by simp)]
  simp [ne_ds]
theorem toPy_int (n : Nat) (S : Sto) (i : Int) : toPy n S (.int i) = some (.int i) := by cases n <;> rfl
theorem toPy_str (n : Nat) (S : Sto) (x : Str) : toPy n S (.str x) = some (.str x) := by cases n <;> rfl
theorem toPy_bl (n : Nat) (S : Sto) (b : Bool) : toPy n S (.bl b) = some (.bool b) := by cases n <;> rfl
theorem toPy_non (n : Nat) (S : Sto) : toPy n S .non = some .none := by cases n <;> rfl
theorem mapO_ints (n : Nat) (S : Sto) : ∀ ws : List Int, mapO (toPy n S) (ws.map D.int) = some (ws.map PyData.int)
  | [] => rfl
  | w :: ws => by
    show (toPy n S (.int w)).bind _ = _
    rw [toPy_int, Option.bind_some, mapO_ints n S ws]
    rfl
theorem canLayAll_ints : ∀ ws : List Int, PyData.canLayAll0 (ws.map PyData.int) = true
  | [] => by simp only [List.map_nil, PyData.canLayAll0]
  | w :: ws => by simp only [List.map_cons, PyData.canLayAll0, PyData.canLay0, canLayAll_ints ws, Bool.and_self]
theorem depthAll_ints : ∀ ws : List Int, PyData.depthAll (ws.map PyData.int) = 0
  | [] => by simp only [List.map_nil, PyData.depthAll]
  | w :: ws => by simp only [List.map_cons, PyData.depthAll, PyData.depth, depthAll_ints ws, Nat.max_self]
theorem shaped_ints (ws : List Int) : SeqAt.shaped (.list (ws.map PyData.int)) = true := by
  unfold SeqAt.shaped
  rw [Bool.and_eq_true]
  refine ⟨by simp only [PyData.canLay0]; exact canLayAll_ints ws, decide_eq_true ?_⟩
  simp only [PyData.depth, depthAll_ints]
  decide

structure Deck (S : Sto) (dk l : Nat) : Prop where
  at_ : ∃ s, S[dk]? = some (.dic (deckL l s)) ∧ 0 ≤ s ∧ s < 2305843009213693951
  deep : ∃ ws : List Int, S[l]? = some (.lst (ws.map D.int)) ∧ (∀ w ∈ ws, 0 ≤ w) ∧ ws.length ≤ 1000
  ne : dk ≠ l
theorem ints_sc {n : Nat} : ∀ ws : List Int, scL n (ws.map D.int) = true
  | [] => by simp
  | w :: ws => by simp [ints_sc ws]
def ownA (dk l : Nat) : Nat → Bool := fun i => decide (i = dk ∨ i = l)
def dealA (dk l : Nat) : Deal where
  dk := dk
  own := ownA dk l
  ok := fun S => Deck S dk l
  lt := fun {S i} h q => by
    obtain ⟨s, h1, _⟩ := h.at_
    obtain ⟨ws, h2, _⟩ := h.deep
    unfold ownA at q
    rcases of_decide_eq_true q with rfl | rfl
    · exact get_lt h1
    · exact get_lt h2
  app := fun {S T} h => by
    obtain ⟨s, h1, h2, h3⟩ := h.at_
    obtain ⟨ws, h4, h5, h6⟩ := h.deep
    exact ⟨⟨s, by rw [List.getElem?_append_left (get_lt h1)]; exact h1, h2, h3⟩, ⟨ws, by rw [List.getElem?_append_left (get_lt h4)]; exact h4, h5, h6⟩, h.ne⟩
  cut := fun {S T} hl h => by
    obtain ⟨s, h1, h2, h3⟩ := h.at_
    obtain ⟨ws, h4, h5, h6⟩ := h.deep
    rw [List.getElem?_append_left (hl dk (by simp [ownA]))] at h1
    rw [List.getElem?_append_left (hl l (by simp [ownA]))] at h4
    exact ⟨⟨s, h1, h2, h3⟩, ⟨ws, h4, h5, h6⟩, h.ne⟩
  sc := fun {S i c} h q e => by
    obtain ⟨s, h1, _⟩ := h.at_
    obtain ⟨ws, h2, _⟩ := h.deep
    unfold ownA at q
    rcases of_decide_eq_true q with rfl | rfl
    · rw [h1] at e; cases e
      have := get_lt h2
      simp [scC, this]
    · rw [h2] at e; cases e
      exact ints_sc ws
theorem eqB_nil {S : Sto} {l : Nat} {ws : List Int} (h : S[l]? = some (.lst (ws.map D.int))) :
    eqB S (.loc l) (.rol []) = some ws.isEmpty := by
  have e1 : toPy 64 S (.loc l) = some (.list (ws.map PyData.int)) := by
    simp only [toPy, h, mapO_ints, Option.bind_some]
  have e2 : toPy 64 S (.rol []) = some (.list (([] : List Int).map PyData.int)) := rfl
  show (toPy 64 S (.loc l)).bind (fun p => (toPy 64 S (.rol [])).bind fun q => if SeqAt.shaped p = true ∧ SeqAt.shaped q = true then some (PyData.eqv p q) else none) = _
  rw [e1, e2, Option.bind_some, Option.bind_some, if_pos ⟨shaped_ints ws, shaped_ints []⟩]
  simp only [PyData.eqv]
  cases ws <;> simp [PyData.eqvAll]
theorem deck_deep {S : Sto} {dk l : Nat} {s : Int} (h : S[dk]? = some (.dic (deckL l s))) : ixD (.loc dk) (.str "deep") S = some (.loc l, S) := ix_dic h rfl (get_deep _ _)
theorem deck_state {S : Sto} {dk l : Nat} {s : Int} (h : S[dk]? = some (.dic (deckL l s))) : ixD (.loc dk) (.str "state") S = some (.int s, S) := ix_dic h rfl (get_state _ _)
theorem fmod_bounds {a b : Int} (h : 0 < b) : 0 ≤ a.fmod b ∧ a.fmod b < b := by
  rw [Int.fmod_eq_emod_of_nonneg a (Int.le_of_lt h)]
  exact ⟨Int.emod_nonneg a (by omega), Int.emod_lt_of_pos a h⟩
theorem size_1000 {n : Nat} (h : n ≤ 1000) : n < sizeLine := Nat.lt_of_le_of_lt h (by decide)
theorem Deck.state {S : Sto} {dk l : Nat} (h : Deck S dk l) {s : Int} (h0 : 0 ≤ s) (h1 : s < 2305843009213693951) : Deck (S.set dk (.dic (deckL l s))) dk l := by
  obtain ⟨s', hs, _⟩ := h.at_
  obtain ⟨ws, hl, hw⟩ := h.deep
  exact ⟨⟨s, set_eq hs, h0, h1⟩, ⟨ws, (set_ne h.ne).trans hl, hw⟩, h.ne⟩
theorem Deck.digits {S : Sto} {dk l : Nat} (h : Deck S dk l) {ws : List Int} (h0 : ∀ w ∈ ws, 0 ≤ w) (h1 : ws.length ≤ 1000) : Deck (S.set l (.lst (ws.map D.int))) dk l := by
  obtain ⟨s', hs, hb⟩ := h.at_
  obtain ⟨ws', hl, hw⟩ := h.deep
  exact ⟨⟨s', (set_ne (Ne.symm h.ne)).trans hs, hb⟩, ⟨ws, set_eq hl, h0, h1⟩, h.ne⟩
theorem fqK {dk l : Nat} {S : Sto} (c : Cell) : FQ (ownA dk l) S (S.set dk c) := ⟨by simp, fun i h => set_ne (fun q => by subst q; simp [ownA] at h)⟩
theorem fqL {dk l : Nat} {S : Sto} (c : Cell) : FQ (ownA dk l) S (S.set l c) := ⟨by simp, fun i h => set_ne (fun q => by subst q; simp [ownA] at h)⟩
/-- a number drawn -/
def IsDraw (many : Int) (d : D) : Prop := ∃ r, d = .int r ∧ 0 ≤ r ∧ (1 ≤ many → r < many)
theorem drawA {dk l : Nat} {many : Int} (hm : many < 1000) : Dsp (dealA dk l) (gcZ A_draw) [.loc dk, .int many] (IsDraw many) := by
  refine Dsp.of fun S (h : Deck S dk l) => ?_
  obtain ⟨s, hs, hs0, hs1⟩ := h.at_
  obtain ⟨ws, hl, hw, hwl⟩ := h.deep
  have ne := h.ne
  have en : neD (.loc l) (.rol []) S = some (.bl (!ws.isEmpty), S) := by
    unfold neD
    rw [eqB_nil hl]
    rfl
  have fin : ∀ {r : Int} {S' : Sto}, Deck S' dk l → FQ (ownA dk l) S S' → 0 ≤ r → (1 ≤ many → r < many) → Ret (dealA dk l) S (IsDraw many) (.int r, S') := fun {r S'} h1 f a b => Ret.val0 (G := dealA dk l) h1 f ⟨r, rfl, a, b⟩ (fun n => by simp)
  refine w_fn rfl ?_
  by_cases h2 : many < 2
  · simp [h2]
    exact fin h FQ.refl (by omega) (by omega)
  have hmp : 0 < many := by omega
  have hmn : ¬ many = 0 := by omega
  have hma : many.natAbs < 1073741824 := by omega
  have sz2 : 2 < sizeLine := by decide
  cases ws with
  | nil =>
    simp only [List.isEmpty_nil, Bool.not_true] at en
    simp [h2, deck_deep hs, en, deck_state hs, hs, put_state, sz2, hmn]
    have b1 := fmod_bounds (a := s * 1181783497276652981 + 88172645463325) (b := 2305843009213693951) (by decide)
    generalize (s * 1181783497276652981 + 88172645463325).fmod 2305843009213693951 = u at b1 ⊢
    have b2 := fun a => fmod_bounds (a := a) hmp
    have b3 : -18446744073709551616 < u ∧ u < 18446744073709551616 := by omega
    simp [b3]
    exact fin (h.state b1.1 b1.2) (fqK _) (b2 _).1 fun _ => (b2 _).2
  | cons w0 wr =>
    simp only [List.isEmpty_cons, Bool.not_false] at en
    obtain ⟨A, z, eA⟩ : ∃ A z, w0 :: wr = A ++ [z] := ⟨(w0 :: wr).dropLast, (w0 :: wr).getLast (by simp), (List.dropLast_concat_getLast (by simp)).symm⟩
    rw [eA] at hw hwl hl
    have hz : 0 ≤ z := hw z (by simp)
    have hA : ∀ w ∈ A, 0 ≤ w := fun w hw' => hw w (by simp [hw'])
    have hAl : A.length + 1 ≤ 1000 := by simpa using hwl
    have q4 : ((A ++ [z]).map D.int)[((A ++ [z]).map D.int).length - 1]? = some (.int z) := by simp
    have q5 : ((A ++ [z]).map D.int).dropLast = A.map D.int := by simp
    have p1 := pop_loc hl q4
    rw [q5] at p1
    have d1 : Deck (S.set l (.lst (A.map D.int))) dk l := h.digits hA (by omega)
    have f1 : FQ (ownA dk l) S (S.set l (.lst (A.map D.int))) := fqL _
    have b2 := fun a => fmod_bounds (a := a) hmp
    obtain ⟨s1, k1, _⟩ := d1.at_
    have k2 : (S.set l (.lst (A.map D.int)))[l]? = some (.lst (A.map D.int)) := set_eq hl
    simp [h2, deck_deep hs, en, lst_loc hl, p1, hmn, deck_deep k1, lst_loc k2, hma]
    by_cases hb : z < many
    · exact .inl ⟨hb, fin d1 f1 (b2 _).1 fun _ => (b2 _).2⟩
    · refine .inr ⟨by omega, ?_⟩
      have a1 := app_loc (d := .int (z.fdiv many)) k2 (by rw [List.length_map]; exact size_1000 (by omega))
      have hq : 0 ≤ z.fdiv many := by rw [Int.fdiv_eq_ediv_of_nonneg z (Int.le_of_lt hmp)]; exact Int.ediv_nonneg hz (by omega)
      have d2 : Deck ((S.set l (.lst (A.map D.int))).set l (.lst ((A ++ [z.fdiv many]).map D.int))) dk l :=
        d1.digits (fun w hw' => by rcases List.mem_append.mp hw' with q | q; exact hA w q; rw [List.mem_singleton.mp q]; exact hq) (by simp; omega)
      have f2 : FQ (ownA dk l) S ((S.set l (.lst (A.map D.int))).set l (.lst ((A ++ [z.fdiv many]).map D.int))) := f1.trans (fqL _)
      rw [List.map_append] at d2 f2
      simp at d2 f2
      simp [a1, hmn]
      exact fin d2 f2 (b2 _).1 fun _ => (b2 _).2
/-! ### an item picked -/
theorem atI_lt {α : Type} {xs : List α} {i : Int} (h0 : 0 ≤ i) (h1 : i < xs.length) : ∃ x, atI xs i = some x ∧ x ∈ xs := by
  have hn : i.toNat < xs.length := by omega
  refine ⟨xs[i.toNat], ?_, List.getElem_mem hn⟩
  unfold atI ixN
  rw [if_pos h0, if_pos h1, Option.bind_some, List.getElem?_eq_getElem hn]
/-- draws of a deck by a def -/
abbrev Draws (G : Deal) (draw : Fn) : Prop := ∀ many : Int, many < 1000 → Dsp G draw [.loc G.dk, .int many] (IsDraw many)
theorem pickG {G : Deal} {draw : Fn} (hd : Draws G draw) {q : D} {xs : List D} (hq : q = .rol xs ∨ q = .tup xs) (hn : xs ≠ []) (hl : xs.length < 1000) (hx : ∀ x ∈ xs, lf x) : Dsp G (gcZ (A_pick draw)) [.loc G.dk, q] (· ∈ xs) := by
  refine Dsp.of fun S h => ?_
  have hp : 0 < xs.length := List.length_pos_iff.mpr hn
  refine w_fn rfl ?_
  have l1 : lenD q S = some (.int xs.length, S) := by rcases hq with rfl | rfl <;> rfl
  simp [l1]
  refine (hd _ (by omega)).at0 h ?_
  rintro d S' ⟨r, rfl, r0, r1⟩ h1 f1
  obtain ⟨x, hx', hm⟩ := atI_lt r0 (r1 (by omega))
  have l2 : ixD q (.int r) S' = some (x, S') := by rcases hq with rfl | rfl <;> simp [hx']
  simp [l2]
  exact Ret.val0 h1 f1 hm (hx x hm)
/-! ### the deck made -/
def DeckAt (S : Sto) (n : Nat) : Prop := ∃ (l : Nat) (s : Int) (ws : List Int), S[1]? = some (.dic (deckL l s)) ∧ 0 ≤ s ∧ s < 2305843009213693951 ∧ S[l]? = some (.lst (ws.map D.int)) ∧ (∀ w ∈ ws, 0 ≤ w) ∧ ws.length + n ≤ 1000 ∧ l ≠ 1
theorem deckA {c0 : Int} (h0 : 0 ≤ c0) (h1 : c0 < 100000) (ns : List Int) (hn : ns.length ≤ 63) : wO (A_deck c0 [.rol (ns.map D.int)] []) fun p => ∃ dk l, p.1 = .loc dk ∧ Deck p.2 dk l := by
  refine w_fn rfl ?_
  generalize hcut : cutD (ns.map D.int) none (some 63) = cut
  have ck : ∀ d ∈ cut, ∃ i, d = .int i := fun d hd => by
    rw [← hcut] at hd
    have := List.mem_of_mem_drop (List.mem_of_mem_take hd)
    obtain ⟨i, _, e⟩ := List.mem_map.mp this
    exact ⟨i, e.symm⟩
  have cl : cut.length ≤ 63 := by
    rw [← hcut]
    unfold cutD
    rw [List.length_take, List.length_drop, List.length_map]
    omega
  simp [hcut]
  refine for_w (fun ds ρ S => DeckAt S ds.length ∧ (∀ d ∈ ds, ∃ i, d = .int i) ∧ (∃ r x y z, ρ = [r, some (.loc 1), x, y, z]))
    (fun _ _ => False) (fun _ _ => False) (fun _ _ _ _ => rfl) ?_ ?_ (fun _ _ h => h.elim) (fun _ _ h => h.elim) _ _ _ ?_
  · rintro d ds ρ S ⟨⟨l, s, ws, hs, hs0, hs1, hl, hw, hwl, ne⟩, hi, ⟨r, x, y, z, rfl⟩⟩
    obtain ⟨i, rfl⟩ := hi d (by simp)
    have hi' : ∀ d ∈ ds, ∃ i, d = .int i := fun d hd => hi d (by simp [hd])
    have nat : 2 < sizeLine := by decide
    have sz : sizeLine = 16777216 := by decide
    rw [List.length_cons] at hwl
    generalize hv : (if i < 0 then -i else i) = v
    have hv0 : 0 ≤ v := by subst hv; split <;> omega
    have fin : ∀ (S' : Sto) (l' : Nat) (ws' : List Int), S'[1]? = some (.dic (deckL l' s)) → S'[l']? = some (.lst (ws'.map D.int)) → (∀ w ∈ ws', (0 : Int) ≤ w) → ws'.length + ds.length ≤ 1000 → l' ≠ 1 → ∀ m : Int,
        DeckAt (S'.set 1 (.dic (deckL l' (m.fmod 2305843009213693951)))) ds.length := by
      intro S' l' ws' k2 kl hw' hl' ne' m
      have b := fmod_bounds (a := m) (b := 2305843009213693951) (by decide)
      exact ⟨l', _, ws', set_eq k2, b.1, b.2, (set_ne (Ne.symm ne')).trans kl, hw', hl', ne'⟩
    simp [hv]
    by_cases hb : v < 1000000000000000000
    · refine .inl ⟨hb, ?_⟩
      have f := fin S l ws hs hl hw (by omega) ne
      simp [deck_state hs, hs, put_state, nat, f]
      exact hi'
    · refine .inr ⟨by omega, ?_⟩
      have l2 : 1 < S.length := get_lt hs
      have ll : l < S.length := get_lt hl
      have q2 : ∀ T, (S ++ T)[1]? = some (.dic (deckL l s)) := fun T => by rw [List.getElem?_append_left l2]; exact hs
      have ad := addX_Rloc (fr := false) (es := [.int v]) hl
      rw [if_pos (by simp; omega)] at ad
      have k2 : ((S ++ [Cell.lst (.int v :: ws.map D.int)]).set 1 (.dic (deckL S.length s)))[1]? = some (.dic (deckL S.length s)) := set_eq (q2 _)
      have f := fin ((S ++ [Cell.lst (.int v :: ws.map D.int)]).set 1 (.dic (deckL S.length s))) S.length (v :: ws) k2 ((set_ne (by omega)).trans (by simp)) (fun w hw' => by rcases List.mem_cons.mp hw' with q | q; exact q ▸ hv0; exact hw w q) (by simp; omega) (by omega)
      simp [deck_deep hs, ad, q2, put_deep, nat]
      simp [deck_state k2, k2, put_state, nat]
      simp at f
      exact ⟨f _, hi'⟩
  · rintro ρ S ⟨⟨l, s, ws, hs, hs0, hs1, hl, hw, hwl, ne⟩, hi, ⟨r, x, y, z, rfl⟩⟩
    simp
    exact ⟨l, ⟨s, hs, hs0, hs1⟩, ⟨ws, hl, hw, by simpa using hwl⟩, Ne.symm ne⟩
  · refine ⟨⟨0, _, [], rfl, ?_, ?_, rfl, by simp, by simp; omega, by decide⟩, ck, ⟨_, _, _, _, rfl⟩⟩
    · omega
    · omega
end DD

/-! leftstanding.books upon data: what is wrong with a value that is no agreement. -/
namespace DD
open PySem L2
namespace B
def tab_ONTO_KINDS : List (Str × D) := [("open", .tup [.str "open", .str "yes", .str "off"]), ("yes", .tup [.str "yes", .str "done", .str "off"]), ("done", .tup []), ("off", .tup [])]
def m_is_an_integer : Fn := mkFn 1 1 (mRet (mAndV (m1 (isiD "int") (mCons (mV 0) mNil)) (mNotV (m1 (isiD "bool") (mCons (mV 0) mNil)))))
def z_is_an_integer : Fn := gcZ m_is_an_integer
def m_is_place : Fn := mkFn 2 2 (mRet (mAndV (mCall z_is_an_integer (mCons (mV 0) mNil)) (mChain leD ltD (mC (.int 0)) (mV 0) (mV 1))))
def z_is_place : Fn := gcZ m_is_place
def m_is_tuple : Fn := mkFn 3 3 (mRet (mAndV (m1 (isiD "tuple") (mCons (mV 0) mNil)) (mChain leD leD (mV 1) (m1 lenD (mCons (mV 0) mNil)) (mV 2))))
def z_is_tuple : Fn := gcZ m_is_tuple
def m_is_word : Fn := mkFn 1 2 (mSeq (mIte (mOr (mNot (mB (m1 (isiD "str") (mCons (mV 0) mNil)))) (mNot (mB (mChain leD leD (mC (.int 1)) (m1 lenD (mCons (mV 0) mNil)) (mC (.int 6)))))) (mRet (mC (.bl false))) mSkip)
  (mRet (m1 allD (mCons (mCompX true [1] (mIs (mV 0)) (gN 1) mYes (mChain leSD leSD (mC (.str "a")) (mV 1) (mC (.str "z")))) mNil))))
def z_is_word : Fn := gcZ m_is_word
def m_is_ascending : Fn := mkFn 1 3 (mRet (m1 allD (mCons (mCompX true [1, 2] (mZip (mCons (mV 0) (mCons (mSlX true (mV 0) (mP (mC (.int 1))) mNoP) mNil))) (gT (gsCons (gN 1) (gsCons (gN 2) gsNil))) mYes (m2 ltA (mV 1) (mV 2))) mNil)))
def z_is_ascending : Fn := gcZ m_is_ascending
def m__is_pair : Fn := mkFn 3 5 (mSeq (mIte (mNot (mB (mCall z_is_tuple (mCons (mV 0) (mCons (mC (.int 2)) (mCons (mC (.int 2)) mNil)))))) (mRet (mC (.bl false))) mSkip)
  (mSeq (mAsg (mV 0) (gT (gsCons (gN 3) (gsCons (gN 4) gsNil))))
  (mRet (mAndV (mCall z_is_place (mCons (mV 3) (mCons (mV 2) mNil))) (mAndV (m2 neD (mV 3) (mV 1)) (mCall z_is_word (mCons (mV 4) mNil)))))))
def z__is_pair : Fn := gcZ m__is_pair
def m__are_pairs : Fn := mkFn 4 5 (mRet (mAndV (mCall z_is_tuple (mCons (mV 0) (mCons (mC (.int 0)) (mCons (mV 1) mNil)))) (m1 allD (mCons (mCompX true [4] (mI (mV 0)) (gN 4) mYes (mCall z__is_pair (mCons (mV 4) (mCons (mV 2) (mCons (mV 3) mNil))))) mNil))))
def z__are_pairs : Fn := gcZ m__are_pairs
def m__leads : Fn := mkFn 3 3 (mSeq (mIte (mOr (mNot (mB (mCall z_is_place (mCons (mV 1) (mCons (m1 lenD (mCons (mV 2) mNil)) mNil))))) (mNot (mB (mCall z_is_place (mCons (mV 0) (mCons (mV 1) mNil)))))) (mRet (mC (.bl false))) mSkip)
  (mRet (m2 inD (m2 ixD (mV 2) (mV 1)) (mIxTab tab_ONTO_KINDS (m2 ixD (mV 2) (mV 0))))))
def z__leads : Fn := gcZ m__leads
def m__is_row : Fn := mkFn 4 9 (mSeq (mIte (mNot (mB (mCall z_is_tuple (mCons (mV 0) (mCons (mC (.int 5)) (mCons (mC (.int 5)) mNil)))))) (mRet (mC (.bl false))) mSkip)
  (mSeq (mAsg (mV 0) (gT (gsCons (gN 4) (gsCons (gN 5) (gsCons (gN 6) (gsCons (gN 7) (gsCons (gN 8) gsNil)))))))
  (mSeq (mIte (mOr (mNot (mB (mCall z__leads (mCons (mV 4) (mCons (mV 6) (mCons (mV 1) mNil)))))) (mNot (mB (m1 (isiD "bool") (mCons (mV 8) mNil))))) (mRet (mC (.bl false))) mSkip)
  (mSeq (mIte (mOr (mNot (mB (mCall z__are_pairs (mCons (mV 5) (mCons (mC (.int 4)) (mCons (mV 2) (mCons (mV 3) mNil))))))) (mNot (mB (mCall z__are_pairs (mCons (mV 7) (mCons (mC (.int 6)) (mCons (mV 2) (mCons (mV 3) mNil)))))))) (mRet (mC (.bl false))) mSkip)
  (mRet (mAndV (mCall z_is_ascending (mCons (mV 5) mNil)) (m2 eqD (mLenSet (mV 7)) (m1 lenD (mCons (mV 7) mNil)))))))))
def z__is_row : Fn := gcZ m__is_row
def m__are_kinds : Fn := mkFn 1 2 (mSeq (mIte (mNot (mB (mCall z_is_tuple (mCons (mV 0) (mCons (mC (.int 1)) (mCons (mC (.int 8)) mNil)))))) (mRet (mC (.bl false))) mSkip)
  (mSeq (mIte (mNot (mB (m1 allD (mCons (mCompX true [1] (mI (mV 0)) (gN 1) mYes (mAndV (m1 (isiD "str") (mCons (mV 1) mNil)) (mInTab tab_ONTO_KINDS (mV 1)))) mNil)))) (mRet (mC (.bl false))) mSkip)
  (mRet (m2 inD (m2 ixD (mV 0) (mC (.int 0))) (mC (.tup [.str "open", .str "yes"]))))))
def z__are_kinds : Fn := gcZ m__are_kinds
def m__book_error : Fn := mkFn 3 7 (mSeq (mIte (mNot (mB (mCall z_is_tuple (mCons (mV 0) (mCons (mC (.int 2)) (mCons (mC (.int 2)) mNil)))))) (mRet (mTup (mCons (mC (.str "book")) (mCons (mV 1) mNil)))) mSkip)
  (mSeq (mAsg (mV 0) (gT (gsCons (gN 3) (gsCons (gN 4) gsNil))))
  (mSeq (mIte (mOr (mNot (mB (m1 (isiD "tuple") (mCons (mV 3) mNil)))) (mNot (mB (m1 (isiD "tuple") (mCons (mV 4) mNil))))) (mRet (mTup (mCons (mC (.str "book")) (mCons (mV 1) mNil)))) mSkip)
  (mSeq (mIte (mNot (mB (mCall z__are_kinds (mCons (mV 3) mNil)))) (mRet (mTup (mCons (mC (.str "kinds")) (mCons (mV 1) mNil)))) mSkip)
  (mSeq (mFor (mEnum (mCons (mV 4) mNil)) (gT (gsCons (gN 5) (gsCons (gN 6) gsNil))) (mIte (mOr (mB (m2 eqD (mV 5) (mC (.int 12)))) (mNot (mB (mCall z__is_row (mCons (mV 6) (mCons (mV 3) (mCons (mV 1) (mCons (mV 2) mNil)))))))) (mRet (mTup (mCons (mC (.str "row")) (mCons (mV 1) (mCons (mV 5) mNil))))) mSkip))
  (mRet (mC .non)))))))
def z__book_error : Fn := gcZ m__book_error
def m_agreement_error : Fn := mkFn 1 4 (mSeq (mIte (mNot (mB (mCall z_is_tuple (mCons (mV 0) (mCons (mC (.int 2)) (mCons (mC (.int 4)) mNil)))))) (mRet (mC (.str "form"))) mSkip)
  (mSeq (mFor (mEnum (mCons (mV 0) mNil)) (gT (gsCons (gN 1) (gsCons (gN 2) gsNil))) (mSeq (mAsg (mCall z__book_error (mCons (mV 2) (mCons (mV 1) (mCons (m1 lenD (mCons (mV 0) mNil)) mNil)))) (gN 3))
  (mIte (mB (m2 notND (mV 3) (mC .non))) (mRet (mV 3)) mSkip)))
  (mRet (mC .non))))
def z_agreement_error : Fn := gcZ m_agreement_error
end B
/-! ### what they tell -/
def isInt : D → Bool
  | .int _ => true
  | _ => false
def isPlace (n : Int) : D → Bool
  | .int i => decide (0 ≤ i) && decide (i < n)
  | _ => false
def isTup (lo hi : Int) : D → Bool
  | .tup ds => decide (lo ≤ (ds.length : Int)) && decide ((ds.length : Int) ≤ hi)
  | _ => false
def lowC (c : Nat) : Bool := decide (97 ≤ c) && decide (c ≤ 122)
def isWord : D → Bool
  | .str x => decide (1 ≤ (x.length : Int)) && decide ((x.length : Int) ≤ 6) && x.cps.toList.all lowC
  | _ => false
theorem lf_bl {b : Bool} : lf (.bl b) := fun _ => by simp
theorem lf_int {i : Int} : lf (.int i) := fun _ => by simp
theorem lf_str {x : Str} : lf (.str x) := fun _ => by simp
theorem lf_non : lf .non := fun _ => by simp
theorem no_loc {n : Nat} (h : lf (.loc n)) : False := by have := h 0; simp at this
@[simp] theorem isi_rod {T : String} {ks : List Key} {ds : List D} {S : Sto} : isiD T (.rod ks ds) S = some (.bl (isB "dict" T), S) := rfl
theorem b_integer {d : D} (h : lf d) : Pu B.z_is_an_integer [d] (.bl (isInt d)) := Pu.of0 lf_bl fun S => by
  refine w_fn rfl ?_
  cases d <;> first | exact (no_loc h).elim | simp [isB, isInt]
theorem b_place {d : D} (h : lf d) (n : Int) : Pu B.z_is_place [d, .int n] (.bl (isPlace n d)) := Pu.of0 lf_bl fun S => by
  refine w_fn rfl ?_
  simp [(b_integer h).w]
  cases d <;> simp [isInt, isPlace]
  rename_i i
  by_cases q : 0 ≤ i
  · simp [q]; omega
  · simp [q]
theorem b_tuple {d : D} (h : lf d) (lo hi : Int) : Pu B.z_is_tuple [d, .int lo, .int hi] (.bl (isTup lo hi d)) := Pu.of0 lf_bl fun S => by
  refine w_fn rfl ?_
  cases d <;> first | exact (no_loc h).elim | simp [isB, isTup]
  rename_i ds
  by_cases q : lo ≤ (ds.length : Int)
  · simp [q]; omega
  · simp [q]
/-! ### comprehensions that change nothing -/
theorem comp_fm {gm : Gm} {tt : Tx} {el : Ex} {ρ : Env} {S : Sto} (p : D → Bool) (f : D → D) : ∀ (ds acc : List D), (∀ d ∈ ds, wO (gm d ρ) fun ρ1 => wO (tt ρ1 S) fun b => b = (p d, S) ∧ (p d = true → wO (el ρ1 S) fun y => y = (f d, S))) → acc.length + ds.length < sizeLine →
    compL gm (fun _ => true) tt el ρ ds acc S = some (acc ++ (ds.filter p).map f, S)
  | [], acc, _, _ => by simp [compL]
  | d :: ds, acc, h, hl => by
    obtain ⟨ρ1, g1, b, t1, rfl, h2⟩ := h d (by simp)
    have hr : ∀ e ∈ ds, _ := fun e he => h e (List.mem_cons_of_mem _ he)
    simp only [List.length_cons] at hl
    unfold compL
    simp only [if_true, g1, t1, Option.bind_some]
    cases hp : p d with
    | true =>
      obtain ⟨y, e1, rfl⟩ := h2 hp
      have l1 : acc.length < sizeLine := by omega
      simp only [if_true, e1, Option.bind_some, if_pos l1]
      rw [comp_fm p f ds (acc ++ [f d]) hr (by simp; omega)]
      simp [hp]
    | false =>
      simp only [if_false, Bool.false_eq_true]
      rw [comp_fm p f ds acc hr (by omega)]
      simp [hp]
theorem comp_m {gm : Gm} {el : Ex} {ρ : Env} {S : Sto} (f : D → D) (ds acc : List D) (h : ∀ d ∈ ds, wO (gm d ρ) fun ρ1 => wO (el ρ1 S) fun y => y = (f d, S)) (hl : acc.length + ds.length < sizeLine) :
    compL gm (fun _ => true) mYes el ρ ds acc S = some (acc ++ ds.map f, S) := by
  have := comp_fm (gm := gm) (tt := mYes) (el := el) (ρ := ρ) (S := S) (fun _ => true) f ds acc (fun d hd => (h d hd).imp fun ρ1 q => by simpa using q) hl
  rwa [List.filter_eq_self.mpr (fun _ _ => rfl)] at this
theorem all_rol {bs : List Bool} {S : Sto} : allD (.rol (bs.map D.bl)) S = some (.bl (bs.all id), S) := by
  have : mapO blOf (bs.map D.bl) = some bs := by
    induction bs with
    | nil => rfl
    | cons b bs ih => simp [mapO, blOf, ih]
  simp [allD, lstOf, this]
theorem le_a {c : Nat} : (!decide ((⟨#[c]⟩ : Str).cps.toList < ("a" : Str).cps.toList)) = decide (97 ≤ c) := by
  have : ("a" : Str).cps.toList = [97] := by decide +kernel
  rw [this]
  by_cases h : 97 ≤ c
  · have : ¬ ([c] : List Nat) < [97] := by simp [List.cons_lt_cons_iff]; omega
    simp [h, this]
  · have : ([c] : List Nat) < [97] := by simp [List.cons_lt_cons_iff]; omega
    simp [h, this]
theorem le_z {c : Nat} : (!decide (("z" : Str).cps.toList < (⟨#[c]⟩ : Str).cps.toList)) = decide (c ≤ 122) := by
  have : ("z" : Str).cps.toList = [122] := by decide +kernel
  rw [this]
  by_cases h : c ≤ 122
  · have : ¬ ([122] : List Nat) < [c] := by simp [List.cons_lt_cons_iff]; omega
    simp [h, this]
  · have : ([122] : List Nat) < [c] := by simp [List.cons_lt_cons_iff]; omega
    simp [h, this]
theorem map_str {S : Sto} {el : Ex} {ρ : Env} {p : Nat → Bool} {x : Str} (hx : x.length ≤ 200000) (h : ∀ c, wO (el (ρ.set 1 (some (.str ⟨#[c]⟩))) S) fun y => y = (.bl (p c), S)) :
    compL (gN 1) (fun _ => true) mYes el ρ (x.cps.toList.map fun c => D.str ⟨#[c]⟩) [] S = some ((x.cps.toList.map p).map D.bl, S) := by
  have nat : sizeLine = 16777216 := by decide
  have hc : x.cps.toList.length = x.length := by simp [Str.length]
  rw [comp_m (fun d => match d with | .str z => .bl (p (z.cps.toList.headD 0)) | _ => .non) _ [] (fun d hd => by
    obtain ⟨c, _, rfl⟩ := List.mem_map.mp hd
    rw [w_gN]
    simpa using h c) (by rw [List.length_map, List.length_nil]; omega)]
  rw [List.map_map, List.map_map, List.nil_append]
  rfl
theorem len_str {x : Str} (hx : x.length ≤ 200000) (S : Sto) : lenD (.str x) S = some (.int x.length, S) := by
  have nat : sizeLine = 16777216 := by decide
  simp only [lenD]
  rw [if_pos (by omega)]
theorem sign_low {c : Nat} {ρ : Env} {S : Sto} (h : ρ[1]? = some (some (.str ⟨#[c]⟩))) : wO (mChain leSD leSD (mC (.str "a")) (mV 1) (mC (.str "z")) ρ S) fun y => y = (.bl (lowC c), S) := by
  rw [w_chain, w_c, w_v]
  refine ⟨_, h, ?_⟩
  show wO (some (D.bl (!decide ((⟨#[c]⟩ : Str).cps.toList < ("a" : Str).cps.toList)), S)) _
  rw [wO_some, le_a, linkC_bl]
  refine ⟨fun q => ?_, fun q => ?_⟩
  · rw [w_c]
    show wO (some (D.bl (!decide (("z" : Str).cps.toList < (⟨#[c]⟩ : Str).cps.toList)), S)) _
    rw [wO_some, le_z]
    simp at q
    simp [lowC, q]
  · simp at q
    simp [lowC]; omega
theorem b_word {d : D} (h : lf d) (hs : ∀ x, d = .str x → x.length ≤ 200000) : Pu B.z_is_word [d] (.bl (isWord d)) := Pu.of0 lf_bl fun S => by
  refine w_fn rfl ?_
  cases d with
  | loc n => exact (no_loc h).elim
  | str x =>
    have hx := hs x rfl
    have l1 := len_str hx S
    simp [isB, l1, wipeE]
    refine ⟨fun q1 => ?_, fun q => by simp only [isWord]; rw [decide_eq_false (by omega : ¬ (1 ≤ (x.length : Int)))]; rfl⟩
    by_cases q2 : (x.length : Int) ≤ 6
    · refine .inr ⟨q2, ?_⟩
      rw [map_str (p := lowC) hx (fun c => sign_low rfl), wO_some, all_rol, wO_some]
      simp only [isWord, decide_eq_true q1, decide_eq_true q2, Bool.true_and, List.all_map]
      exact ⟨rfl, trivial⟩
    · exact .inl ⟨by omega, by simp only [isWord]; rw [decide_eq_false q2]; simp⟩
  | _ => simp [isB, isWord]
/-! ### parts of data of small size -/
theorem wtL_mem : ∀ {ds : List D} {d : D}, d ∈ ds → wtD d ≤ wtL ds
  | e :: ds, d, h => by
    rcases List.mem_cons.mp h with rfl | h
    · simp; omega
    · have := wtL_mem h
      simp; omega
theorem dpL_mem : ∀ {ds : List D} {d : D}, d ∈ ds → dpD d ≤ dpL ds
  | e :: ds, d, h => by
    rcases List.mem_cons.mp h with rfl | h
    · simp; omega
    · have := dpL_mem h
      simp; omega
theorem Fit.mem {ds : List D} {d : D} (h : Fit (.tup ds)) (hd : d ∈ ds) : Fit d := by
  obtain ⟨h1, h2, h3⟩ := h
  simp at h1 h2 h3
  have a := wtL_mem hd
  have b := dpL_mem hd
  exact ⟨fitL_all.mp h1 d hd, by omega, by omega⟩
theorem Fit.lf {d : D} (h : Fit d) : lf d := fun _ => h.sc
theorem Fit.str {x : Str} (h : Fit (.str x)) : x.length ≤ 200000 := by
  have := h.2.1
  simp at this
  show x.cps.size ≤ _
  omega
theorem Fit.len {ds : List D} (h : Fit (.tup ds)) : ds.length ≤ 200000 := by
  have h2 := h.2.1
  simp at h2
  have : ∀ ds : List D, ds.length ≤ wtL ds := fun ds => by
    induction ds with
    | nil => simp
    | cons d ds ih => simp; omega
  have := this ds
  omega
theorem b_wordF {d : D} (h : Fit d) : Pu B.z_is_word [d] (.bl (isWord d)) := b_word h.lf fun x e => by subst e; exact h.str
/-! ### pairs -/
def isPair (house n : Int) : D → Bool
  | .tup [.int i, b] => decide (0 ≤ i) && decide (i < n) && decide (i ≠ house) && isWord b
  | _ => false
theorem two_cases {ds : List D} : (∃ a b, ds = [a, b]) ∨ ds.length ≠ 2 := by
  match ds with
  | [] => exact .inr (by simp)
  | [_] => exact .inr (by simp)
  | [a, b] => exact .inl ⟨a, b, rfl⟩
  | _ :: _ :: _ :: _ => exact .inr (by simp)
theorem five_cases {ds : List D} : (∃ a b c d e, ds = [a, b, c, d, e]) ∨ ds.length ≠ 5 := by
  match ds with
  | [] => exact .inr (by simp)
  | [_] => exact .inr (by simp)
  | [_, _] => exact .inr (by simp)
  | [_, _, _] => exact .inr (by simp)
  | [_, _, _, _] => exact .inr (by simp)
  | [a, b, c, d, e] => exact .inl ⟨a, b, c, d, e, rfl⟩
  | _ :: _ :: _ :: _ :: _ :: _ :: _ => exact .inr (by simp)
theorem isTup_ne {ds : List D} {n : Nat} (h : ds.length ≠ n) : isTup n n (.tup ds) = false := by
  simp only [isTup]
  by_cases q : ds.length < n
  · rw [decide_eq_false (by omega)]; rfl
  · rw [decide_eq_false (by omega : ¬ ((ds.length : Int) ≤ n))]; simp
theorem isPair_ne {house n : Int} {ds : List D} (h : ds.length ≠ 2) : isPair house n (.tup ds) = false := by
  match ds with
  | [] => rfl
  | [a] => cases a <;> rfl
  | [a, b] => simp at h
  | a :: _ :: _ :: _ => cases a <;> rfl
theorem isTup_not {lo hi : Int} {d : D} (h : ∀ ds, d ≠ .tup ds) : isTup lo hi d = false := by
  cases d <;> first | rfl | exact absurd rfl (h _)
theorem b_pair {d : D} (h : Fit d) (house n : Int) : Pu B.z__is_pair [d, .int house, .int n] (.bl (isPair house n d)) := Pu.of0 lf_bl fun S => by
  refine w_fn rfl ?_
  simp [(b_tuple h.lf 2 2).w]
  by_cases ht : ∃ ds, d = .tup ds
  · obtain ⟨ds, rfl⟩ := ht
    rcases two_cases (ds := ds) with ⟨a, b, rfl⟩ | hl
    · have ha := h.mem (d := a) (by simp)
      have hb := h.mem (d := b) (by simp)
      have t : isTup 2 2 (.tup [a, b]) = true := rfl
      simp [t, (b_place ha.lf n).w, (b_wordF hb).w]
      cases a with
      | int i =>
        cases hp : isPlace n (.int i) with
        | false =>
          have e : isPair house n (.tup [.int i, b]) = false := by
            simp only [isPlace] at hp
            simp only [isPair, hp, Bool.false_and]
          simp [e]
        | true =>
          by_cases q3 : i = house
          · have e : isPair house n (.tup [.int i, b]) = false := by simp [isPair, q3]
            subst q3
            simp [e]
          · have e : isPair house n (.tup [.int i, b]) = isWord b := by
              simp only [isPlace] at hp
              simp only [isPair, hp, Bool.true_and]
              simp [q3]
            simp [e, q3, (b_wordF hb).w]
      | _ => simp [isPlace, isPair]
    · have t := isTup_ne (n := 2) hl
      have e := isPair_ne (house := house) (n := n) hl
      simp at t
      simp [t, e]
  · have t := isTup_not (lo := 2) (hi := 2) (fun ds e => ht ⟨ds, e⟩)
    have e : isPair house n d = false := by cases d <;> first | rfl | exact absurd ⟨_, rfl⟩ ht
    simp [t, e]
def arePairs (most house n : Int) : D → Bool
  | .tup ds => decide ((ds.length : Int) ≤ most) && ds.all (isPair house n)
  | _ => false
theorem b_pairs {d : D} (h : Fit d) (most house n : Int) : Pu B.z__are_pairs [d, .int most, .int house, .int n] (.bl (arePairs most house n d)) := Pu.of0 lf_bl fun S => by
  have nat : sizeLine = 16777216 := by decide
  refine w_fn rfl ?_
  simp [(b_tuple h.lf 0 most).w]
  by_cases ht : ∃ ds, d = .tup ds
  · obtain ⟨ds, rfl⟩ := ht
    have hl := h.len
    by_cases q : (ds.length : Int) ≤ most
    · have t : isTup 0 most (.tup ds) = true := by simp [isTup, q]
      simp [t, wipeE]
      rw [comp_m (fun d => .bl (isPair house n d)) ds [] (fun d hd => by
        simp [(b_pair (h.mem hd) house n).w]) (by simp; omega)]
      rw [wO_some, List.nil_append, show ds.map (fun d => D.bl (isPair house n d)) = (ds.map (isPair house n)).map D.bl by rw [List.map_map]; rfl, all_rol, wO_some]
      simp [arePairs, q, List.all_map]
    · have t : isTup 0 most (.tup ds) = false := by simp [isTup, q]
      simp [t, arePairs, q]
  · have t := isTup_not (lo := 0) (hi := most) (fun ds e => ht ⟨ds, e⟩)
    have e : arePairs most house n d = false := by cases d <;> first | rfl | exact absurd ⟨_, rfl⟩ ht
    simp [t, e]
/-! ### ascending, unlike -/
def ltP (a b : D) : Bool := ltL (keysL0 a) (keysL0 b)
def rising : List D → Bool
  | a :: b :: r => ltP a b && rising (b :: r)
  | _ => true
def IsP (d : D) : Prop := ∃ i x, d = .tup [.int i, .str x]
theorem isP_of {house n : Int} {d : D} (h : isPair house n d = true) : IsP d := by
  match d, h with
  | .tup [.int i, b], h =>
    simp only [isPair, Bool.and_eq_true] at h
    have hw := h.2
    cases b with
    | str x => exact ⟨i, x, rfl⟩
    | _ => cases hw
theorem keys_P {i : Int} {x : Str} : keysL (.tup [.int i, .str x]) = some [.inl i, .inr x] := rfl
theorem ltA_P {a b : D} (ha : IsP a) (hb : IsP b) (S : Sto) : ltA a b S = some (.bl (ltP a b), S) := by
  obtain ⟨i, x, rfl⟩ := ha
  obtain ⟨j, y, rfl⟩ := hb
  show ((keysL (.tup [.int i, .str x])).bind fun k => (keysL (.tup [.int j, .str y])).bind fun l => if k.map isNum = l.map isNum then some (D.bl (ltL k l), S) else none) = _
  rw [keys_P, keys_P]
  rfl
theorem geA_P {a b : D} (ha : IsP a) (hb : IsP b) (S : Sto) : geA a b S = some (.bl (!ltP a b), S) := by
  obtain ⟨i, x, rfl⟩ := ha
  obtain ⟨j, y, rfl⟩ := hb
  show ((keysL (.tup [.int i, .str x])).bind fun k => (keysL (.tup [.int j, .str y])).bind fun l => if k.map isNum = l.map isNum then some (D.bl (!ltL k l), S) else none) = _
  rw [keys_P, keys_P]
  rfl
theorem cut_dropn (xs : List D) (i : Nat) : cutD xs (some (i : Int)) none = xs.drop i := by
  unfold cutD
  rw [HT.sIx_none, HT.sIx_nat]
  by_cases h : i ≤ xs.length
  · rw [Nat.min_eq_left h]
    exact List.take_of_length_le (by simp)
  · rw [Nat.min_eq_right (by omega), List.drop_of_length_le (Nat.le_refl _), List.drop_of_length_le (by omega)]
    simp
theorem cut_tail (xs : List D) : cutD xs (some 1) none = xs.drop 1 := cut_dropn xs 1
theorem zip_mem : ∀ {ds es : List D} {d : D}, d ∈ zipL ds es → ∃ x y, x ∈ ds ∧ y ∈ es ∧ d = .tup [x, y]
  | [], _, d, h => by simp [zipL] at h
  | _ :: _, [], d, h => by simp [zipL] at h
  | a :: ds, b :: es, d, h => by
    have h' : d ∈ D.tup [a, b] :: zipL ds es := h
    rcases List.mem_cons.mp h' with rfl | h
    · exact ⟨a, b, by simp, by simp, rfl⟩
    · obtain ⟨x, y, h1, h2, h3⟩ := zip_mem h
      exact ⟨x, y, by simp [h1], by simp [h2], h3⟩
def ltPP : D → Bool
  | .tup [a, b] => ltP a b
  | _ => false
theorem zip_rising : ∀ ds : List D, ((zipL ds (ds.drop 1)).all ltPP) = rising ds
  | [] => by simp [zipL, rising]
  | [a] => by simp [zipL, rising]
  | a :: b :: r => by
    have := zip_rising (b :: r)
    simp only [List.drop_succ_cons, List.drop_zero] at this ⊢
    show (D.tup [a, b] :: zipL (b :: r) r).all ltPP = _
    rw [List.all_cons, this]
    rfl
theorem zip_len : ∀ ds es : List D, (zipL ds es).length ≤ ds.length
  | [], _ => by simp [zipL]
  | _ :: _, [] => by simp [zipL]
  | a :: ds, b :: es => by
    show (D.tup [a, b] :: zipL ds es).length ≤ _
    have := zip_len ds es
    simp only [List.length_cons]; omega
theorem b_ascending {ds : List D} (hp : ∀ d ∈ ds, IsP d) (hl : ds.length ≤ 200000) : Pu B.z_is_ascending [.tup ds] (.bl (rising ds)) := Pu.of0 lf_bl fun S => by
  have nat : sizeLine = 16777216 := by decide
  refine w_fn rfl ?_
  have zl := zip_len ds (ds.drop 1)
  simp [cut_tail, wipeE]
  rw [comp_m (fun d => .bl (ltPP d)) _ [] (fun d hd => by
    obtain ⟨x, y, h1, h2, rfl⟩ := zip_mem hd
    have e := ltA_P (hp x h1) (hp y (List.mem_of_mem_tail h2)) S
    simp [e, ltPP]) (by simp only [List.drop_one] at zl; simp only [List.length_nil]; omega)]
  rw [wO_some, List.nil_append, show ∀ L : List D, L.map (fun d => D.bl (ltPP d)) = (L.map ltPP).map D.bl from fun L => by rw [List.map_map]; rfl, all_rol, wO_some, List.all_map]
  have := zip_rising ds
  simp at this
  simp [this]
def uniqB (ds : List D) : Bool := match setKeys (.tup ds) with
  | some kss => decide ((uniqK kss).length = ds.length)
  | none => false
theorem keys_all : ∀ {ds : List D}, (∀ d ∈ ds, IsP d) → ∃ kss, mapO keysL ds = some kss
  | [], _ => ⟨[], rfl⟩
  | d :: ds, h => by
    obtain ⟨i, x, rfl⟩ := h d (by simp)
    obtain ⟨kss, e⟩ := keys_all fun d hd => h d (List.mem_cons_of_mem _ hd)
    exact ⟨_, by rw [show mapO keysL (D.tup [.int i, .str x] :: ds) = (keysL (D.tup [.int i, .str x])).bind fun y => (mapO keysL ds).bind fun ys => some (y :: ys) from rfl, e, keys_P]; rfl⟩
theorem set_P {ds : List D} (hp : ∀ d ∈ ds, IsP d) (hl : ds.length < 64) : ∃ kss, setKeys (.tup ds) = some kss ∧ uniqB ds = decide ((uniqK kss).length = ds.length) := by
  obtain ⟨kss, e⟩ := keys_all hp
  have : setKeys (.tup ds) = some kss := by simp only [setKeys]; rw [if_pos hl, e]
  exact ⟨kss, this, by unfold uniqB; rw [this]⟩
/-! ### kinds -/
def four : List Str := ["open", "yes", "done", "off"]
def leadK (a b : Str) : Bool := if a = "open" then decide (b ∈ (["open", "yes", "off"] : List Str)) else if a = "yes" then decide (b ∈ (["yes", "done", "off"] : List Str)) else false
def isKind : D → Bool
  | .str x => decide (x ∈ four)
  | _ => false
def leadsB (ks : List D) (st on : D) : Bool := match st, on with
  | .int s, .int o => decide (0 ≤ s) && decide (s < o) && decide (o < ks.length) && (match ks[s.toNat]?, ks[o.toNat]? with
    | some (.str a), some (.str b) => leadK a b
    | _, _ => false)
  | _, _ => false
theorem in_strs (b : Str) (xs : List Str) (S : Sto) : inD (.str b) (.tup (xs.map D.str)) S = some (.bl (decide (b ∈ xs)), S) := by
  have f : (xs.map D.str).all flatD = true := by
    rw [List.all_map, List.all_eq_true]
    intro x _
    rfl
  have g : ((xs.map D.str).any fun y => eqF y (.str b)) = decide (b ∈ xs) := by
    rw [List.any_map]
    induction xs with
    | nil => simp
    | cons x xs ih =>
      rw [List.any_cons, ih (by rw [List.all_map, List.all_eq_true]; intro x _; rfl)]
      simp only [Function.comp, eqF, List.mem_cons]
      by_cases q : x = b
      · subst q; simp
      · simp [q, Ne.symm q]
  unfold inD inB
  rw [seqOf_tup, Option.bind_some, if_pos ⟨rfl, f⟩, g]
  rfl
theorem notIn_strs (b : Str) (xs : List Str) (S : Sto) : notInD (.str b) (.tup (xs.map D.str)) S = some (.bl (!decide (b ∈ xs)), S) := by
  have := in_strs b xs S
  unfold inD at this
  unfold notInD
  cases h : inB S (.str b) (.tup (xs.map D.str)) with
  | none => rw [h] at this; cases this
  | some v =>
    rw [h] at this
    have e : D.bl v = D.bl (decide (b ∈ xs)) := congrArg Prod.fst (Option.some.inj this)
    cases e
    rfl
theorem kind_cases {d : D} (h : isKind d = true) : d = .str "open" ∨ d = .str "yes" ∨ d = .str "done" ∨ d = .str "off" := by
  cases d with
  | str x =>
    simp only [isKind, decide_eq_true_eq] at h
    simp only [four, List.mem_cons, List.not_mem_nil, or_false] at h
    rcases h with rfl | rfl | rfl | rfl <;> simp
  | _ => cases h
theorem tab_lead {a b : D} (ha : isKind a = true) (hb : isKind b = true) (S : Sto) : ∃ x y t, a = .str x ∧ b = .str y ∧ tabGet B.tab_ONTO_KINDS x = some t ∧ inD b t S = some (.bl (leadK x y), S) := by
  rcases kind_cases ha with rfl | rfl | rfl | rfl
  · refine ⟨_, (match b with | .str y => y | _ => ""), _, rfl, ?_, rfl, ?_⟩
    · rcases kind_cases hb with rfl | rfl | rfl | rfl <;> rfl
    · rcases kind_cases hb with rfl | rfl | rfl | rfl <;> exact (in_strs _ ["open", "yes", "off"] S)
  · refine ⟨_, (match b with | .str y => y | _ => ""), _, rfl, ?_, rfl, ?_⟩
    · rcases kind_cases hb with rfl | rfl | rfl | rfl <;> rfl
    · rcases kind_cases hb with rfl | rfl | rfl | rfl <;> exact (in_strs _ ["yes", "done", "off"] S)
  · refine ⟨_, (match b with | .str y => y | _ => ""), _, rfl, ?_, rfl, ?_⟩
    · rcases kind_cases hb with rfl | rfl | rfl | rfl <;> rfl
    · rcases kind_cases hb with rfl | rfl | rfl | rfl <;> exact (in_strs _ [] S)
  · refine ⟨_, (match b with | .str y => y | _ => ""), _, rfl, ?_, rfl, ?_⟩
    · rcases kind_cases hb with rfl | rfl | rfl | rfl <;> rfl
    · rcases kind_cases hb with rfl | rfl | rfl | rfl <;> exact (in_strs _ [] S)
theorem atI_get {α : Type} {xs : List α} {i : Int} (h0 : 0 ≤ i) (h1 : i < xs.length) : atI xs i = xs[i.toNat]? := by
  unfold atI ixN
  rw [if_pos h0, if_pos h1, Option.bind_some]
theorem b_leads {ks : List D} {st on : D} (hk : ks.all isKind = true) (h1 : Fit st) (h2 : Fit on) : Pu B.z__leads [st, on, .tup ks] (.bl (leadsB ks st on)) := Pu.of0 lf_bl fun S => by
  refine w_fn rfl ?_
  simp [(b_place h2.lf ks.length).w]
  cases hp : isPlace ks.length on with
  | false =>
    have e : leadsB ks st on = false := by
      cases on with
      | int o =>
        cases st with
        | int s =>
          simp only [isPlace, Bool.and_eq_false_iff, decide_eq_false_iff_not] at hp
          simp only [leadsB]
          by_cases q : 0 ≤ s ∧ s < o
          · rw [decide_eq_false (by omega : ¬ o < (ks.length : Int))]; simp
          · by_cases q2 : 0 ≤ s
            · rw [decide_eq_false (by omega : ¬ s < o)]; simp
            · rw [decide_eq_false q2]; simp
        | _ => rfl
      | _ => cases st <;> rfl
    simp [e]
  | true =>
    cases on with
    | int o =>
      simp only [isPlace, Bool.and_eq_true, decide_eq_true_eq] at hp
      simp [(b_place h1.lf o).w]
      cases hs : isPlace o st with
      | false =>
        have e : leadsB ks st (.int o) = false := by
          cases st with
          | int s =>
            simp only [isPlace] at hs
            simp only [leadsB, hs, Bool.false_and]
          | _ => rfl
        simp [e]
      | true =>
        cases st with
        | int s =>
          simp only [isPlace, Bool.and_eq_true, decide_eq_true_eq] at hs
          have ko : ks[o.toNat]? = some ks[o.toNat] := List.getElem?_eq_getElem (by omega)
          have ki : ks[s.toNat]? = some ks[s.toNat] := List.getElem?_eq_getElem (by omega)
          have ao := atI_get (xs := ks) hp.1 hp.2
          have ai := atI_get (xs := ks) hs.1 (by omega)
          obtain ⟨x, y, t, e1, e2, e3, e4⟩ := tab_lead (List.all_eq_true.mp hk _ (List.getElem_mem (by omega : s.toNat < ks.length))) (List.all_eq_true.mp hk _ (List.getElem_mem (by omega : o.toNat < ks.length))) S
          have e : leadsB ks (.int s) (.int o) = leadK x y := by
            simp only [leadsB, ko, ki, e1, e2]
            rw [decide_eq_true hs.1, decide_eq_true hs.2, decide_eq_true hp.2]; rfl
          rw [e2] at e4
          simp [ao, ai, ko, ki, e1, e2, e3, e4, e]
        | _ => cases hs
    | _ => cases hp
def isBl : D → Bool
  | .bl _ => true
  | _ => false
def items : D → List D
  | .tup ds => ds
  | _ => []
def isRow (ks : List D) (house n : Int) : D → Bool
  | .tup [st, tk, on, sd, lt] => leadsB ks st on && isBl lt && arePairs 4 house n tk && arePairs 6 house n sd && rising (items tk) && uniqB (items sd)
  | _ => false
theorem pairs_P {most house n : Int} {ds : List D} (h : arePairs most house n (.tup ds) = true) : (ds.length : Int) ≤ most ∧ ∀ d ∈ ds, IsP d := by
  simp only [arePairs, Bool.and_eq_true, decide_eq_true_eq] at h
  exact ⟨h.1, fun d hd => isP_of (List.all_eq_true.mp h.2 d hd)⟩
theorem b_row {ks : List D} {d : D} (hk : ks.all isKind = true) (h : Fit d) (house n : Int) : Pu B.z__is_row [d, .tup ks, .int house, .int n] (.bl (isRow ks house n d)) := Pu.of0 lf_bl fun S => by
  refine w_fn rfl ?_
  simp [(b_tuple h.lf 5 5).w]
  by_cases ht : ∃ ds, d = .tup ds
  · obtain ⟨ds, rfl⟩ := ht
    rcases five_cases (ds := ds) with ⟨st, tk, on, sd, lt, rfl⟩ | hl
    · have h1 := h.mem (d := st) (by simp)
      have h2 := h.mem (d := tk) (by simp)
      have h3 := h.mem (d := on) (by simp)
      have h4 := h.mem (d := sd) (by simp)
      have h5 := h.mem (d := lt) (by simp)
      have t : isTup 5 5 (.tup [st, tk, on, sd, lt]) = true := rfl
      have il : ∀ S, isiD "bool" lt S = some (.bl (isBl lt), S) := fun S => by
        cases lt <;> first | exact (no_loc h5.lf).elim | rfl
      simp [t, (b_leads hk h1 h3).w, il, (b_pairs h2 4 house n).w, (b_pairs h4 6 house n).w]
      have er : isRow ks house n (.tup [st, tk, on, sd, lt]) = (leadsB ks st on && isBl lt && arePairs 4 house n tk && arePairs 6 house n sd && rising (items tk) && uniqB (items sd)) := rfl
      rw [er]
      cases e1 : leadsB ks st on with
      | false => simp
      | true =>
        cases e2 : isBl lt with
        | false => simp
        | true =>
          cases e3 : arePairs 4 house n tk with
          | false => simp
          | true =>
            cases e4 : arePairs 6 house n sd with
            | false => simp
            | true =>
              cases tk with
              | tup tk =>
                cases sd with
                | tup sd =>
                  obtain ⟨l3, p3⟩ := pairs_P e3
                  obtain ⟨l4, p4⟩ := pairs_P e4
                  obtain ⟨kss, k1, k2⟩ := set_P p4 (by omega)
                  simp [items, (b_ascending p3 (by omega)).w]
                  cases e5 : rising tk with
                  | false => simp
                  | true => simp [k1, k2]; omega
                | _ => cases e4
              | _ => cases e3
    · have t := isTup_ne (n := 5) hl
      have e : isRow ks house n (.tup ds) = false := by
        match ds, hl with
        | [], _ => rfl
        | [_], _ => rfl
        | [_, _], _ => rfl
        | [_, _, _], _ => rfl
        | [_, _, _, _], _ => rfl
        | [a, b, c, d, e], hl => simp at hl
        | _ :: _ :: _ :: _ :: _ :: _ :: _, _ => rfl
      simp at t
      simp [t, e]
  · have t := isTup_not (lo := 5) (hi := 5) (fun ds e => ht ⟨ds, e⟩)
    have e : isRow ks house n d = false := by cases d <;> first | rfl | exact absurd ⟨_, rfl⟩ ht
    simp [t, e]
/-! ### kinds, books, agreements -/
def kindsB : D → Bool
  | .tup ks => decide (1 ≤ ks.length) && decide (ks.length ≤ 8) && ks.all isKind && (match ks with | k :: _ => decide (k = .str "open" ∨ k = .str "yes") | [] => false)
  | _ => false
theorem tab_isSome {x : Str} : (tabGet B.tab_ONTO_KINDS x).isSome = decide (x ∈ four) := by
  unfold B.tab_ONTO_KINDS four
  simp only [tabGet]
  by_cases a : ("open" : Str) = x
  · subst a; simp
  by_cases b : ("yes" : Str) = x
  · subst b; simp [a]
  by_cases c : ("done" : Str) = x
  · subst c; simp [a, b]
  by_cases d : ("off" : Str) = x
  · subst d; simp [a, b, c]
  · simp [a, b, c, d, Ne.symm a, Ne.symm b, Ne.symm c, Ne.symm d]
theorem b_kinds {d : D} (h : Fit d) : Pu B.z__are_kinds [d] (.bl (kindsB d)) := Pu.of0 lf_bl fun S => by
  have nat : sizeLine = 16777216 := by decide
  refine w_fn rfl ?_
  simp [(b_tuple h.lf 1 8).w]
  by_cases ht : ∃ ds, d = .tup ds
  · obtain ⟨ds, rfl⟩ := ht
    have hl := h.len
    cases t : isTup 1 8 (.tup ds) with
    | false =>
      have e : kindsB (.tup ds) = false := by
        simp only [isTup, Bool.and_eq_false_iff, decide_eq_false_iff_not] at t
        simp only [kindsB]
        rcases t with t | t
        · rw [decide_eq_false (by omega : ¬ 1 ≤ ds.length)]; rfl
        · rw [decide_eq_false (by omega : ¬ ds.length ≤ 8)]; simp
      simp [e]
    | true =>
      simp only [isTup, Bool.and_eq_true, decide_eq_true_eq] at t
      simp [wipeE]
      rw [comp_m (fun d => .bl (isKind d)) ds [] (fun d hd => by
        have hf := (h.mem hd).lf
        cases d <;> first | exact (no_loc hf).elim | simp [isB, isKind, tab_isSome]) (by simp only [List.length_nil]; omega)]
      rw [wO_some, List.nil_append, show ds.map (fun d => D.bl (isKind d)) = (ds.map isKind).map D.bl by rw [List.map_map]; rfl, all_rol, wO_some]
      cases ds with
      | nil => simp at t
      | cons k ks =>
        have e0 : kindsB (.tup (k :: ks)) = ((k :: ks).all isKind && decide (k = .str "open" ∨ k = .str "yes")) := by
          simp only [kindsB]
          rw [decide_eq_true (by omega : 1 ≤ (k :: ks).length), decide_eq_true (by omega : (k :: ks).length ≤ 8)]
          simp
        rw [e0, show (((k :: ks).map isKind).all id) = (k :: ks).all isKind by rw [List.all_map]; rfl]
        cases ha : (k :: ks).all isKind with
        | false => simp
        | true =>
          have hk : isKind k = true := List.all_eq_true.mp ha k (by simp)
          have a0 : atI (k :: ks) 0 = some k := by rw [atI_get (by omega) (by simp only [List.length_cons]; omega)]; rfl
          simp [a0]
          rcases kind_cases hk with rfl | rfl | rfl | rfl <;> rw [show inD _ (D.tup [D.str "open", D.str "yes"]) S = _ from in_strs _ ["open", "yes"] S] <;> try simp
  · have t := isTup_not (lo := 1) (hi := 8) (fun ds e => ht ⟨ds, e⟩)
    have e : kindsB d = false := by cases d <;> first | rfl | exact absurd ⟨_, rfl⟩ ht
    simp [t, e]
def isT : D → Bool
  | .tup _ => true
  | _ => false
def rowsErr (ks : List D) (house n : Int) : Nat → List D → D
  | _, [] => .non
  | k, r :: rs => if k = 12 ∨ isRow ks house n r = false then .tup [.str "row", .int house, .int k] else rowsErr ks house n (k + 1) rs
def bookErr (house n : Int) : D → D
  | .tup [.tup ks, .tup rs] => if kindsB (.tup ks) = true then rowsErr ks house n 0 rs else .tup [.str "kinds", .int house]
  | _ => .tup [.str "book", .int house]
def booksErr (n : Int) : Nat → List D → D
  | _, [] => .non
  | i, b :: bs => if bookErr i n b = .non then booksErr n (i + 1) bs else bookErr i n b
def faultD : D → D
  | .tup bs => if 2 ≤ bs.length ∧ bs.length ≤ 4 then booksErr bs.length 0 bs else .str "form"
  | _ => .str "form"
theorem rowsErr_lf {ks : List D} {house n : Int} : ∀ (k : Nat) (rs : List D), lf (rowsErr ks house n k rs)
  | _, [] => lf_non
  | k, r :: rs => by
    unfold rowsErr
    split
    · intro m; simp
    · exact rowsErr_lf (k + 1) rs
theorem kinds_all {ks : List D} (h : kindsB (.tup ks) = true) : ks.all isKind = true ∧ ks.length ≤ 8 ∧ 1 ≤ ks.length := by
  simp only [kindsB, Bool.and_eq_true, decide_eq_true_eq] at h
  exact ⟨h.1.2, h.1.1.2, h.1.1.1⟩
theorem bookErr_not {house n : Int} {d : D} (h : ∀ ks rs, d ≠ .tup [.tup ks, .tup rs]) : bookErr house n d = .tup [.str "book", .int house] := by
  unfold bookErr
  split
  · rename_i ks rs; exact absurd rfl (h ks rs)
  · rfl
theorem bookErr_lf {house n : Int} {d : D} : lf (bookErr house n d) := by
  unfold bookErr
  split
  · split
    · exact rowsErr_lf _ _
    · intro m; simp
  · intro m; simp
theorem b_book {d : D} (h : Fit d) (house n : Int) : Pu B.z__book_error [d, .int house, .int n] (bookErr house n d) := Pu.of0 bookErr_lf fun S => by
  refine w_fn rfl ?_
  simp [(b_tuple h.lf 2 2).w]
  by_cases ht : ∃ ds, d = .tup ds
  · obtain ⟨ds, rfl⟩ := ht
    rcases two_cases (ds := ds) with ⟨a, b, rfl⟩ | hl
    · have ha := h.mem (d := a) (by simp)
      have hb := h.mem (d := b) (by simp)
      have t : isTup 2 2 (.tup [a, b]) = true := rfl
      have ta : ∀ S, isiD "tuple" a S = some (.bl (isT a), S) := fun S => by
        cases a <;> first | exact (no_loc ha.lf).elim | rfl
      have tb : ∀ S, isiD "tuple" b S = some (.bl (isT b), S) := fun S => by
        cases b <;> first | exact (no_loc hb.lf).elim | rfl
      simp [t, ta, tb]
      cases a with
      | tup ks =>
        cases b with
        | tup rs =>
          simp [isT, (b_kinds ha).w]
          cases hk : kindsB (.tup ks) with
          | false => simp [bookErr, hk]
          | true =>
            obtain ⟨k1, _, _⟩ := kinds_all hk
            have e0 : bookErr house n (.tup [.tup ks, .tup rs]) = rowsErr ks house n 0 rs := by simp [bookErr, hk]
            simp [e0]
            refine for_w (fun ds ρ S' => S' = S ∧ (∃ y1 y2, ρ = [some (.tup [.tup ks, .tup rs]), some (.int house), some (.int n), some (.tup ks), some (.tup rs), y1, y2]) ∧ ∃ (k : Nat) (rs' : List D), ds = numL k rs' ∧ (∀ r ∈ rs', r ∈ rs) ∧ rowsErr ks house n 0 rs = rowsErr ks house n k rs')
              (fun _ _ => False) (fun d S' => d = rowsErr ks house n 0 rs ∧ S' = S) (fun _ _ _ _ => rfl) ?_ ?_ (fun _ _ h => h.elim) ?_ _ _ _ ?_
            · rintro d ds ρ S' ⟨rfl, ⟨y1, y2, rfl⟩, k, rs', hd, hm, he⟩
              cases rs' with
              | nil => cases hd
              | cons r rs' =>
                have hd' : d :: ds = .tup [.int k, r] :: numL (k + 1) rs' := hd
                cases hd'
                have hr := hb.mem (hm r (by simp))
                simp [(b_row k1 hr house n).w]
                by_cases q : k = 12
                · have e : rowsErr ks house n k (r :: rs') = .tup [.str "row", .int house, .int k] := by
                    unfold rowsErr; rw [if_pos (.inl q)]
                  have q' : (k : Int) = 12 := by omega
                  simp [he, e, q']
                · have q' : ¬ (k : Int) = 12 := by omega
                  cases hr' : isRow ks house n r with
                  | false =>
                    have e : rowsErr ks house n k (r :: rs') = .tup [.str "row", .int house, .int k] := by
                      unfold rowsErr; rw [if_pos (.inr hr')]
                    simp [he, e, q']
                  | true =>
                    have e : rowsErr ks house n k (r :: rs') = rowsErr ks house n (k + 1) rs' := by
                      conv => lhs; unfold rowsErr
                      rw [if_neg (by simp [q, hr'])]
                    simp [q']
                    exact ⟨k + 1, rs', rfl, fun r h => hm r (by simp [h]), by rw [he, e]⟩
            · rintro ρ S' ⟨rfl, ⟨y1, y2, rfl⟩, k, rs', hd, hm, he⟩
              cases rs' with
              | nil => simp [he, rowsErr]
              | cons r rs' => cases hd
            · rintro d S' ⟨rfl, rfl⟩
              simp
            · exact ⟨rfl, ⟨_, _, rfl⟩, 0, rs, rfl, fun r h => h, rfl⟩
        | _ => simp [isT, bookErr]
      | _ => simp [isT, bookErr]
    · have t := isTup_ne (n := 2) hl
      have e := bookErr_not (house := house) (n := n) (d := .tup ds) (fun ks rs q => by cases q; simp at hl)
      simp at t
      simp [t, e]
  · have t := isTup_not (lo := 2) (hi := 2) (fun ds e => ht ⟨ds, e⟩)
    have e := bookErr_not (house := house) (n := n) (d := d) (fun ks rs q => ht ⟨_, q⟩)
    simp [t, e]
theorem booksErr_lf {n : Int} : ∀ (i : Nat) (bs : List D), lf (booksErr n i bs)
  | _, [] => lf_non
  | i, b :: bs => by
    unfold booksErr
    split
    · exact booksErr_lf (i + 1) bs
    · exact bookErr_lf
theorem faultD_lf {d : D} : lf (faultD d) := by
  unfold faultD
  split
  · split
    · exact booksErr_lf _ _
    · exact lf_str
  · exact lf_str
theorem notN_D (d : D) (h : lf d) (S : Sto) : notND d .non S = some (.bl (!decide (d = .non)), S) := by
  cases d <;> first | exact (no_loc h).elim | simp [notND]
theorem rowsErr_t {ks : List D} {house n : Int} : ∀ (k : Nat) (rs : List D), rowsErr ks house n k rs = .non ∨ ∃ es, rowsErr ks house n k rs = .tup es
  | _, [] => .inl rfl
  | k, r :: rs => by
    unfold rowsErr
    split
    · exact .inr ⟨_, rfl⟩
    · exact rowsErr_t (k + 1) rs
theorem b_error {d : D} (h : Fit d) : Pu B.z_agreement_error [d] (faultD d) := Pu.of0 faultD_lf fun S => by
  refine w_fn rfl ?_
  simp [(b_tuple h.lf 2 4).w]
  by_cases ht : ∃ ds, d = .tup ds
  · obtain ⟨bs, rfl⟩ := ht
    cases t : isTup 2 4 (.tup bs) with
    | false =>
      have e : faultD (.tup bs) = .str "form" := by
        simp only [isTup, Bool.and_eq_false_iff, decide_eq_false_iff_not] at t
        simp only [faultD]
        rw [if_neg (by omega)]
      simp [e]
    | true =>
      simp only [isTup, Bool.and_eq_true, decide_eq_true_eq] at t
      have e0 : faultD (.tup bs) = booksErr bs.length 0 bs := by
        simp only [faultD]
        rw [if_pos (by omega)]
      simp [e0]
      refine for_w (fun ds ρ S' => S' = S ∧ (∃ y1 y2 y3, ρ = [some (.tup bs), y1, y2, y3]) ∧ ∃ (k : Nat) (bs' : List D), ds = numL k bs' ∧ (∀ r ∈ bs', r ∈ bs) ∧ booksErr bs.length 0 bs = booksErr bs.length k bs')
        (fun _ _ => False) (fun d S' => d = booksErr bs.length 0 bs ∧ S' = S) (fun _ _ _ _ => rfl) ?_ ?_ (fun _ _ h => h.elim) ?_ _ _ _ ?_
      · rintro d ds ρ S' ⟨rfl, ⟨y1, y2, y3, rfl⟩, k, bs', hd, hm, he⟩
        cases bs' with
        | nil => cases hd
        | cons b bs' =>
          have hd' : d :: ds = .tup [.int k, b] :: numL (k + 1) bs' := hd
          cases hd'
          have hb := h.mem (hm b (by simp))
          simp [(b_book hb k bs.length).w, notN_D _ bookErr_lf]
          by_cases q : bookErr k bs.length b = .non
          · have e : booksErr bs.length k (b :: bs') = booksErr bs.length (k + 1) bs' := by
              conv => lhs; unfold booksErr
              rw [if_pos q]
            simp [q]
            exact ⟨k + 1, bs', rfl, fun r h => hm r (by simp [h]), by rw [he, e]⟩
          · have e : booksErr bs.length k (b :: bs') = bookErr k bs.length b := by
              conv => lhs; unfold booksErr
              rw [if_neg q]
            simp [q, he, e]
      · rintro ρ S' ⟨rfl, ⟨y1, y2, y3, rfl⟩, k, bs', hd, hm, he⟩
        cases bs' with
        | nil => simp [he, booksErr]
        | cons r rs' => cases hd
      · rintro d S' ⟨rfl, rfl⟩
        simp
      · exact ⟨rfl, ⟨_, _, _, rfl⟩, 0, bs, rfl, fun r h => h, rfl⟩
  · have t := isTup_not (lo := 2) (hi := 4) (fun ds e => ht ⟨ds, e⟩)
    have e : faultD d = .str "form" := by cases d <;> first | rfl | exact absurd ⟨_, rfl⟩ ht
    simp [t, e]
end DD

/-! Agreements as typed data; those that the first laws draw. -/
namespace DD
open PySem L2
abbrev Pr := Nat × Str
structure Rw where
  st : Nat
  tk : List Pr
  on : Nat
  sd : List Pr
  lt : Bool
structure Bk where
  ks : List Str
  rs : List Rw
abbrev Ag := List Bk
def prD (p : Pr) : D := .tup [.int p.1, .str p.2]
def rwD (r : Rw) : D := .tup [.int r.st, .tup (r.tk.map prD), .int r.on, .tup (r.sd.map prD), .bl r.lt]
def bkD (b : Bk) : D := .tup [.tup (b.ks.map D.str), .tup (b.rs.map rwD)]
def agD (a : Ag) : D := .tup (a.map bkD)
def A_leads : Fn := mkFn 2 2 (mSeq (mIte (mB (m2 inD (mV 0) (mTup (mCons (mC (.str "done")) (mCons (mC (.str "off")) mNil))))) (mRet (mC (.bl false))) mSkip)
  (mRet (m2 inD (mV 1) (mIf (mB (m2 eqD (mV 0) (mC (.str "open")))) (mTup (mCons (mC (.str "open")) (mCons (mC (.str "yes")) (mCons (mC (.str "off")) mNil)))) (mTup (mCons (mC (.str "yes")) (mCons (mC (.str "done")) (mCons (mC (.str "off")) mNil))))))))
def A_pairs (draw : Fn) : Fn := mkFn 4 9 (mSeq (mPar 4 5 (mCons (mCompX true [8] (mR1 (mCons (mV 1) mNil)) (gN 8) (mB (m2 neD (mV 8) (mV 2))) (mV 8)) (mCons (mLstX false mNil) mNil)))
  (mSeq (mFor (mR1 (mCons (mCall draw (mCons (mV 0) (mCons (m2 (addX true) (mV 3) (mC (.int 1))) mNil))) mNil)) (gN 6) (mSeq (mAsg (mTup (mCons (mCall (gcZ (A_pick draw)) (mCons (mV 0) (mCons (mV 4) mNil))) (mCons (mCall (gcZ (A_pick draw)) (mCons (mV 0) (mCons (mLstX true (mCons (mC (.str "a")) (mCons (mC (.str "b")) (mCons (mC (.str "a")) (mCons (mC (.str "b")) (mCons (mC (.str "ok")) (mCons (mC (.str "sixsix")) mNil))))))) mNil))) mNil))) (gN 7))
  (mIte (mB (m2 notInD (mV 7) (mV 5))) (mDo (mMeth1 appD (mV 5) (mCons (mV 7) mNil))) mSkip)))
  (mRet (mV 5))))
def A_book (draw : Fn) : Fn := mkFn 4 13 (mSeq (mAsg (m2 (addX true) (mC (.int 1)) (mCall draw (mCons (mV 0) (mCons (mV 3) mNil)))) (gN 4))
  (mSeq (mAsg (mLstX false (mCons (mCall (gcZ (A_pick draw)) (mCons (mV 0) (mCons (mLstX true (mCons (mC (.str "open")) (mCons (mC (.str "open")) (mCons (mC (.str "yes")) mNil)))) mNil))) mNil)) (gN 5))
  (mSeq (mFor (mR1 (mCons (m2 subD (mV 4) (mC (.int 1))) mNil)) (gN 6) (mDo (mMeth1 appD (mV 5) (mCons (mCall (gcZ (A_pick draw)) (mCons (mV 0) (mCons (mLstX true (mCons (mC (.str "open")) (mCons (mC (.str "yes")) (mCons (mC (.str "yes")) (mCons (mC (.str "done")) (mCons (mC (.str "off")) mNil)))))) mNil))) mNil))))
  (mSeq (mAsg (mLstX false mNil) (gN 7))
  (mSeq (mFor (mR1 (mCons (mCall draw (mCons (mV 0) (mCons (mC (.int 6)) mNil))) mNil)) (gN 6) (mSeq (mAsg (mIf (mB (m2 ltD (mV 6) (mC (.int 2)))) (mC (.int 0)) (mCall draw (mCons (mV 0) (mCons (mV 4) mNil)))) (gN 8))
  (mSeq (mAsg (mCompX true [12] (mR2 (mCons (m2 (addX true) (mV 8) (mC (.int 1))) (mCons (mV 4) mNil))) (gN 12) (mB (mCall (gcZ A_leads) (mCons (m2 ixD (mV 5) (mV 8)) (mCons (m2 ixD (mV 5) (mV 12)) mNil)))) (mV 12)) (gN 9))
  (mIte (mB (m2 neD (mV 9) (mLstX true mNil))) (mSeq (mAsg (m1 tupleD (mCons (m1 (sortX true) (mCons (mCall (gcZ (A_pairs draw)) (mCons (mV 0) (mCons (mV 1) (mCons (mV 2) (mCons (mCall (gcZ (A_pick draw)) (mCons (mV 0) (mCons (mLstX true (mCons (mC (.int 0)) (mCons (mC (.int 0)) (mCons (mC (.int 1)) (mCons (mC (.int 1)) (mCons (mC (.int 2)) (mCons (mC (.int 4)) mNil))))))) mNil))) mNil))))) mNil)) mNil)) (gN 10))
  (mSeq (mAsg (m1 tupleD (mCons (mCall (gcZ (A_pairs draw)) (mCons (mV 0) (mCons (mV 1) (mCons (mV 2) (mCons (mCall (gcZ (A_pick draw)) (mCons (mV 0) (mCons (mLstX true (mCons (mC (.int 0)) (mCons (mC (.int 1)) (mCons (mC (.int 2)) (mCons (mC (.int 3)) (mCons (mC (.int 6)) mNil)))))) mNil))) mNil))))) mNil)) (gN 11))
  (mDo (mMeth1 appD (mV 7) (mCons (mTup (mCons (mV 8) (mCons (mV 10) (mCons (mCall (gcZ (A_pick draw)) (mCons (mV 0) (mCons (mV 9) mNil))) (mCons (mV 11) (mCons (m2 eqD (mCall draw (mCons (mV 0) (mCons (mC (.int 3)) mNil))) (mC (.int 0))) mNil)))))) mNil))))) mSkip))))
  (mRet (mTup (mCons (m1 tupleD (mCons (mV 5) mNil)) (mCons (m1 tupleD (mCons (mV 7) mNil)) mNil)))))))))
def A_asking (draw : Fn) : Fn := mkFn 3 11 (mSeq (mPar 3 4 (mCons (mTup (mCons (mC (.str "open")) (mCons (mC (.str "yes")) (mCons (mC (.str "done")) (mCons (mC (.str "off")) mNil))))) (mCons (mListRgX true (mRg2 (mC (.int 1)) (mV 1))) mNil)))
  (mSeq (mPar 5 6 (mCons (m1 tupleD (mCons (mCompX true [9] (mI (mV 4)) (gN 9) mYes (mTup (mCons (mV 9) (mCons (mC (.str "ok")) mNil)))) mNil)) (mCons (m1 tupleD (mCons (mCompX true [9] (mI (mV 4)) (gN 9) mYes (mTup (mCons (mV 9) (mCons (mV 2) mNil)))) mNil)) mNil)))
  (mSeq (mAsg (mLstX false (mCons (mTup (mCons (mC (.int 0)) (mCons (mTup mNil) (mCons (mC (.int 1)) (mCons (m1 tupleD (mCons (mCompX true [9] (mI (mV 4)) (gN 9) mYes (mTup (mCons (mV 9) (mCons (mC (.str "ask")) mNil)))) mNil)) (mCons (m2 eqD (mCall draw (mCons (mV 0) (mCons (mC (.int 2)) mNil))) (mC (.int 0))) mNil)))))) mNil)) (gN 7))
  (mSeq (mDo (mMeth1 appD (mV 7) (mCons (mTup (mCons (mC (.int 1)) (mCons (mV 5) (mCons (mC (.int 2)) (mCons (mV 6) (mCons (m2 eqD (mCall draw (mCons (mV 0) (mCons (mC (.int 2)) mNil))) (mC (.int 0))) mNil)))))) mNil)))
  (mSeq (mAsg (m2 (addX false) (mV 7) (mCompX true [9] (mI (mV 4)) (gN 9) mYes (mTup (mCons (mC (.int 1)) (mCons (mTup (mCons (mTup (mCons (mV 9) (mCons (mC (.str "no")) mNil))) mNil)) (mCons (mC (.int 3)) (mCons (mTup mNil) (mCons (mC (.bl false)) mNil)))))))) (gN 7))
  (mSeq (mAsg (mLstX false (mCons (mTup (mCons (mV 3) (mCons (m1 tupleD (mCons (mV 7) mNil)) mNil))) mNil)) (gN 8))
  (mSeq (mFor (mI (mV 4)) (gN 9) (mSeq (mAsg (mLstX false (mCons (mTup (mCons (mC (.int 0)) (mCons (mTup (mCons (mTup (mCons (mC (.int 0)) (mCons (mC (.str "ask")) mNil))) mNil)) (mCons (mC (.int 1)) (mCons (mTup (mCons (mTup (mCons (mC (.int 0)) (mCons (mC (.str "ok")) mNil))) mNil)) (mCons (m2 eqD (mCall draw (mCons (mV 0) (mCons (mC (.int 2)) mNil))) (mC (.int 0))) mNil)))))) mNil)) (gN 10))
  (mSeq (mDo (mMeth1 appD (mV 10) (mCons (mTup (mCons (mC (.int 0)) (mCons (mTup (mCons (mTup (mCons (mC (.int 0)) (mCons (mC (.str "ask")) mNil))) mNil)) (mCons (mC (.int 3)) (mCons (mTup (mCons (mTup (mCons (mC (.int 0)) (mCons (mC (.str "no")) mNil))) mNil)) (mCons (m2 eqD (mCall draw (mCons (mV 0) (mCons (mC (.int 2)) mNil))) (mC (.int 0))) mNil)))))) mNil)))
  (mDo (mMeth1 appD (mV 8) (mCons (mTup (mCons (mV 3) (mCons (m1 tupleD (mCons (m2 (addX true) (mV 10) (mLstX true (mCons (mTup (mCons (mC (.int 1)) (mCons (mTup (mCons (mTup (mCons (mC (.int 0)) (mCons (mV 2) mNil))) mNil)) (mCons (mC (.int 2)) (mCons (mTup mNil) (mCons (m2 eqD (mCall draw (mCons (mV 0) (mCons (mC (.int 2)) mNil))) (mC (.int 0))) mNil)))))) mNil))) mNil)) mNil))) mNil))))))
  (mRet (m1 tupleD (mCons (mV 8) mNil))))))))))
def A_agreement (draw : Fn) : Fn := mkFn 1 3 (mSeq (mAsg (mCall (gcZ (A_pick draw)) (mCons (mV 0) (mCons (mLstX true (mCons (mC (.int 2)) (mCons (mC (.int 2)) (mCons (mC (.int 3)) (mCons (mC (.int 3)) (mCons (mC (.int 4)) mNil)))))) mNil))) (gN 1))
  (mSeq (mIte (mB (m2 eqD (mCall draw (mCons (mV 0) (mCons (mC (.int 3)) mNil))) (mC (.int 0)))) (mRet (mCall (gcZ (A_asking draw)) (mCons (mV 0) (mCons (mV 1) (mCons (mCall (gcZ (A_pick draw)) (mCons (mV 0) (mCons (mLstX true (mCons (mC (.str "do")) (mCons (mC (.str "a")) (mCons (mC (.str "ok")) mNil)))) mNil))) mNil))))) mSkip)
  (mRet (m1 tupleD (mCons (mCompX true [2] (mR1 (mCons (mV 1) mNil)) (gN 2) mYes (mCall (gcZ (A_book draw)) (mCons (mV 0) (mCons (mV 1) (mCons (mV 2) (mCons (mCall (gcZ (A_pick draw)) (mCons (mV 0) (mCons (mLstX true (mCons (mC (.int 3)) (mCons (mC (.int 4)) (mCons (mC (.int 5)) (mCons (mC (.int 8)) mNil))))) mNil))) mNil)))))) mNil)))))
/-! ### small facts -/
theorem rngL_range : ∀ (n : Nat) (lo : Nat), rngL (lo : Int) n = (List.range' lo n).map fun i => D.int (i : Nat)
  | 0, _ => rfl
  | n + 1, lo => by
    have := rngL_range n (lo + 1)
    rw [List.range'_succ, List.map_cons, ← this]
    rfl
theorem rngL_zero (n : Nat) : rngL 0 n = (List.range n).map fun i => D.int (i : Nat) := by
  rw [List.range_eq_range', ← rngL_range n 0]
  rfl
theorem rngL_int {d : D} : ∀ (n : Nat) (lo : Int), d ∈ rngL lo n → ∃ i, d = .int i ∧ lo ≤ i ∧ i < lo + n
  | 0, _, h => by simp [rngL] at h
  | n + 1, lo, h => by
    simp only [rngL, List.mem_cons] at h
    rcases h with rfl | h
    · exact ⟨lo, rfl, by omega, by omega⟩
    · obtain ⟨i, e, a, b⟩ := rngL_int n (lo + 1) h
      exact ⟨i, e, by omega, by omega⟩
theorem rng_small {n : Nat} (h : n ≤ 1000) : rngOk (n : Int) = true := by unfold rngOk; simp; omega
theorem prD_inj {p q : Pr} (h : prD p = prD q) : p = q := by
  obtain ⟨a, b⟩ := p
  obtain ⟨c, d⟩ := q
  simp only [prD, D.tup.injEq, List.cons.injEq, D.int.injEq, D.str.injEq, and_true] at h
  obtain ⟨h1, h2⟩ := h
  have : a = c := by omega
  rw [this, h2]
def W6 : List Str := ["a", "b", "ok", "sixsix"]
def strF (x : Str) : Prop := fitD (.str x) = true ∧ x.cps.size ≤ 10
theorem W6_fit {x : Str} (h : x ∈ W6) : strF x := by
  unfold W6 at h
  simp only [List.mem_cons, List.not_mem_nil, or_false] at h
  rcases h with rfl | rfl | rfl | rfl <;> exact ⟨by decide +kernel, by decide +kernel⟩
theorem pr_lay {p : Pr} (h : strF p.2) (h1 : p.1 < 1000) : Lay (prD p) := by
  refine ⟨?_, by simp [prD], by simp [prD]⟩
  simp only [prD, fitD_tup, fitL_cons, fitL_nil, Bool.and_true, Bool.and_eq_true, h.1, and_true, fitD_int]
  exact decide_eq_true (by have : (2 : Nat) ^ 10 ≤ 2 ^ 250 := Nat.pow_le_pow_right (by decide) (by decide); omega)
theorem pr_eqv (p q : Pr) : PyData.eqv (pyD (prD p)) (pyD (prD q)) = decide (p = q) := by
  obtain ⟨a, b⟩ := p
  obtain ⟨c, d⟩ := q
  simp only [prD, pyD, pyL, PyData.eqv, PyData.eqvAll, Bool.and_true]
  by_cases h1 : a = c
  · by_cases h2 : b = d
    · subst h1 h2; simp
    · subst h1; simp [h2]
  · have : ¬ (a : Int) = c := by omega
    simp [h1, this]
theorem notIn_pr {S : Sto} {q : Nat} {ps : List Pr} {p : Pr} (hq : S[q]? = some (.lst (ps.map prD))) (hp : ∀ x ∈ ps, strF x.2 ∧ x.1 < 1000) (h : strF p.2) (h1 : p.1 < 1000) : notInD (prD p) (.loc q) S = some (.bl (!decide (p ∈ ps)), S) := by
  have lp := pr_lay h h1
  have ll : Lay (.rol (ps.map prD)) := by
    refine ⟨?_, ?_, ?_⟩
    · rw [fitD_rol, fitL_all]
      intro d hd
      obtain ⟨x, hx, rfl⟩ := List.mem_map.mp hd
      exact (pr_lay (hp x hx).1 (hp x hx).2).1
    · rw [noD_rol, noL_all]
      intro d hd
      obtain ⟨x, hx, rfl⟩ := List.mem_map.mp hd
      exact (pr_lay (hp x hx).1 (hp x hx).2).2.1
    · rw [dpD_rol]
      have := dpL_most (k := 1) (ds := ps.map prD) (fun d hd => by
        obtain ⟨x, hx, rfl⟩ := List.mem_map.mp hd
        simp [prD])
      omega
  have a := (py_lay (S := S) (prD p) 64 lp.1 lp.2.1 (by have := lp.2.2; omega)).1
  have b : toPy 64 S (.loc q) = some (pyD (.rol (ps.map prD))) := by
    have := (py_lay (S := S) (.rol (ps.map prD)) 64 ll.1 ll.2.1 (by have := ll.2.2; omega)).1
    simp only [toPy] at this ⊢
    rw [hq]
    exact this
  unfold notInD inB
  rw [seq_loc hq, Option.bind_some, if_neg (by simp [prD, flatD])]
  simp only [a, b, Option.bind_some, if_pos (And.intro lp.shaped ll.shaped)]
  simp only [pyD]
  congr 2
  have : ∀ L : List Pr, ((pyL (L.map prD)).any fun z => PyData.eqv z (pyD (prD p))) = decide (p ∈ L) := fun L => by
    induction L with
    | nil => simp [pyL]
    | cons x L ih =>
      simp only [List.map_cons, pyL, List.any_cons, ih, pr_eqv, List.mem_cons]
      by_cases e : x = p
      · subst e; simp
      · simp [e, Ne.symm e]
  simp [this]
theorem lf_prs (ps : List Pr) : lfL (ps.map prD) := fun n => scL_all.mpr fun d hd => by
  obtain ⟨x, _, rfl⟩ := List.mem_map.mp hd
  simp [prD]
/-! ### pairs -/
def PairsOk (n house : Nat) (W : List Str) (ps : List Pr) : Prop := ps.Nodup ∧ ∀ p ∈ ps, p.1 < n ∧ p.1 ≠ house ∧ p.2 ∈ W
variable {G : Deal} {draw : Fn}
def othL (n house : Nat) : List Nat := (List.range n).filter (· ≠ house)
def oth (n house : Nat) : List D := (othL n house).map fun i => D.int (i : Nat)
theorem oth_mem {n house : Nat} {d : D} (h : d ∈ oth n house) : ∃ i : Nat, d = .int i ∧ i < n ∧ i ≠ house := by
  obtain ⟨i, hi, rfl⟩ := List.mem_map.mp h
  obtain ⟨h1, h2⟩ := List.mem_filter.mp hi
  exact ⟨i, rfl, by simpa using h1, by simpa using h2⟩
theorem oth_ne {n house : Nat} (hn : 2 ≤ n) : oth n house ≠ [] := by
  intro q
  unfold oth othL at q
  rw [List.map_eq_nil_iff, List.filter_eq_nil_iff] at q
  have a := q 0 (by simp; omega)
  have b := q 1 (by simp; omega)
  simp at a b
  omega
theorem oth_len {n house : Nat} : (oth n house).length ≤ n := by
  unfold oth othL
  rw [List.length_map]
  have := List.length_filter_le (p := fun i => decide (i ≠ house)) (l := List.range n)
  rw [List.length_range] at this
  exact this
theorem others_eq {S : Sto} {n house : Nat} {ρ : DD.Env} (hn : n ≤ 1000) (h8 : 8 < ρ.length) (h2 : ρ[2]? = some (some (.int house))) :
    compL (gN 8) (fun _ => true) (mB (m2 neD (mV 8) (mV 2))) (mV 8) ρ (rngL 0 n) [] S = some (oth n house, S) := by
  have nat : sizeLine = 16777216 := by decide
  rw [rngL_zero, comp_fm (fun d => match d with | .int i => decide (i ≠ (house : Int)) | _ => false) id _ [] (fun d hd => by
    obtain ⟨i, _, rfl⟩ := List.mem_map.mp hd
    have g : (ρ.set 8 (some (D.int i)))[8]? = some (some (.int i)) := List.getElem?_set_self h8
    have g2 : (ρ.set 8 (some (D.int i)))[2]? = some (some (.int house)) := (List.getElem?_set_ne (by decide)).trans h2
    simp [g, g2]
    exact Classical.em _) (by simp; omega)]
  rw [List.nil_append, List.map_id, List.filter_map]
  unfold oth othL
  congr 3
  apply List.filter_congr
  intro i _
  simp [Function.comp]
  omega
/-- a deal's state behind which cells of the own stand -/
theorem at_own {S S' T : Sto} {j : Nat} {c : Cell} (f : S'.length = S.length) (h : T[j]? = some c) : (S' ++ T)[S.length + j]? = some c := by
  rw [← f, List.getElem?_append_right (by omega)]
  simpa using h
theorem set_own {S S' T : Sto} {j : Nat} {c : Cell} (f : S'.length = S.length) : (S' ++ T).set (S.length + j) c = S' ++ T.set j c := by
  rw [← f, List.set_append_right _ _ (by omega)]
  simp
theorem pairsA (hd : Draws G draw) {n house most : Nat} (hn : 2 ≤ n) (hn' : n ≤ 4) (hm : most ≤ 6) : Dsp G (gcZ (A_pairs draw)) [.loc G.dk, .int n, .int house, .int most] (fun d => ∃ ps, d = .rol (ps.map prD) ∧ PairsOk n house W6 ps ∧ ps.length ≤ most) := by
  refine Dsp.of fun S h => ?_
  have nat : sizeLine = 16777216 := by decide
  have pk := fun {q : D} {xs : List D} => pickG (q := q) (xs := xs) hd
  refine w_fn rfl ?_
  simp [rng_small (n := n) (by omega), wipeE]
  rw [others_eq (by omega) (by simp) rfl, wO_some]
  simp
  refine (hd _ (by omega)).at h ?_
  rintro d S1 ⟨r, rfl, r0, r1⟩ h1 f1
  have r1 := r1 (by omega)
  have rr : rngOk r = true := by unfold rngOk; simp; omega
  simp [rr]
  have ol := oth_len (n := n) (house := house)
  refine for_w (fun ds ρ Sx => (∃ y6 y7 y8, ρ = [some (.loc G.dk), some (.int n), some (.int house), some (.int most), some (.rol (oth n house)), some (.loc S.length), y6, y7, y8]) ∧ ∃ S' ps, Sx = S' ++ [.lst (ps.map prD)] ∧ G.ok S' ∧ FQ G.own S S' ∧ PairsOk n house W6 ps ∧ ps.length + ds.length ≤ most)
    (fun _ _ => False) (fun _ _ => False) (fun _ _ _ _ => rfl) ?_ ?_ (fun _ _ h => h.elim) (fun _ _ h => h.elim) _ _ _ ?_
  · rintro d ds ρ Sx ⟨⟨y6, y7, y8, rfl⟩, S', ps, rfl, h', f', ok, hl⟩
    rw [List.length_cons] at hl
    simp
    refine (pk (.inl rfl) (oth_ne hn) (by omega) (fun x hx => by obtain ⟨i, rfl, _⟩ := oth_mem hx; exact lf_int)).at h' ?_
    rintro d2 S2 hd2 h2 f2
    obtain ⟨i, rfl, hi1, hi2⟩ := oth_mem hd2
    simp
    refine (pk (q := .rol [.str "a", .str "b", .str "a", .str "b", .str "ok", .str "sixsix"]) (.inl rfl) (by simp) (by simp) (fun x hx => by simp at hx; rcases hx with rfl | rfl | rfl | rfl | rfl | rfl <;> exact lf_str)).at h2 ?_
    rintro d3 S3 hd3 h3 f3
    obtain ⟨w, rfl, hw⟩ : ∃ w, d3 = .str w ∧ w ∈ W6 := by
      simp at hd3
      rcases hd3 with rfl | rfl | rfl | rfl | rfl | rfl <;> exact ⟨_, rfl, by unfold W6; simp⟩
    have g3 := (f'.trans f2).trans f3
    have cell : (S3 ++ [Cell.lst (ps.map prD)])[S.length]? = some (.lst (ps.map prD)) := at_own (j := 0) g3.len rfl
    have nin := notIn_pr (p := (i, w)) cell (fun x hx => ⟨W6_fit (ok.2 x hx).2.2, by have := (ok.2 x hx).1; omega⟩) (W6_fit hw) (by simp; omega)
    simp only [prD] at nin
    simp [nin]
    have fin : ∀ ps', PairsOk n house W6 ps' → ps'.length + ds.length ≤ most → ∃ S' ps_1, S3 ++ [Cell.lst (ps'.map prD)] = S' ++ [Cell.lst (ps_1.map prD)] ∧ G.ok S' ∧ FQ G.own S S' ∧ PairsOk n house W6 ps_1 ∧ ps_1.length + ds.length ≤ most := fun ps' a b => ⟨S3, ps', rfl, h3, g3, a, b⟩
    by_cases hin : (i, w) ∈ ps
    · exact .inl ⟨hin, S3, ps, ⟨rfl, rfl⟩, h3, g3, ok, by omega⟩
    · refine .inr ⟨hin, ?_⟩
      rw [lst_loc cell, wO_some, app_loc cell (by rw [List.length_map]; omega), wO_some]
      have e := set_own (T := [Cell.lst (ps.map prD)]) (j := 0) (c := .lst (ps.map prD ++ [.tup [.int i, .str w]])) g3.len
      simp only [Nat.add_zero] at e
      rw [e]
      have := fin (ps ++ [(i, w)]) ⟨by
        rw [List.nodup_append]
        exact ⟨ok.1, by simp, fun a ha b hb => by simp at hb; rintro rfl; rw [hb] at ha; exact hin ha⟩, fun p hp => by
        rcases List.mem_append.mp hp with q | q
        · exact ok.2 p q
        · simp at q; subst q
          exact ⟨hi1, hi2, hw⟩⟩ (by simp; omega)
      simpa [prD] using this
  · rintro ρ Sx ⟨⟨y6, y7, y8, rfl⟩, S', ps, rfl, h', f', ok, hl⟩
    simp
    exact Ret.lst0 h' f' ⟨ps, rfl, ok, by simpa using hl⟩ (lf_prs ps)
  · refine ⟨⟨_, _, _, by simp; exact ⟨rfl, rfl, rfl⟩⟩, S1, [], rfl, h1, f1, ⟨List.nodup_nil, by simp⟩, ?_⟩
    rw [rngL_len]; simp; omega
/-! ### sorted pairs -/
def ltQ (p q : Pr) : Bool := byS (prD p) (prD q)
theorem ltQ_eq (p q : Pr) : ltQ p q = ltS ((p.1 : Int), p.2) ((q.1 : Int), q.2) := rfl
theorem strLt_total {x y : Str} (h : x ≠ y) : strLt x y = true ∨ strLt y x = true := by
  unfold strLt
  simp only [decide_eq_true_eq]
  have hne : x.cps.toList ≠ y.cps.toList := fun q => by
    obtain ⟨a⟩ := x
    obtain ⟨b⟩ := y
    have : a = b := Array.toList_inj.mp q
    exact h (by rw [this])
  rcases Classical.em (x.cps.toList < y.cps.toList) with a | a
  · exact .inl a
  · rcases Classical.em (y.cps.toList < x.cps.toList) with b | b
    · exact .inr b
    · exact absurd (List.le_antisymm (List.not_lt.mp b) (List.not_lt.mp a)) hne
theorem strLt_trans {x y z : Str} (h1 : strLt x y = true) (h2 : strLt y z = true) : strLt x z = true := by
  unfold strLt at *
  simp only [decide_eq_true_eq] at *
  exact List.lt_trans h1 h2
theorem ltQ_total {p q : Pr} (h : p ≠ q) : ltQ p q = true ∨ ltQ q p = true := by
  rw [ltQ_eq, ltQ_eq]
  by_cases e : (p.1 : Int) = q.1
  · rw [ltS_eq e, ltS_eq e.symm]
    refine strLt_total fun e2 => h ?_
    obtain ⟨a, b⟩ := p
    obtain ⟨c, d⟩ := q
    have : a = c := by simp only at e; omega
    simp only at e2
    rw [this, e2]
  · rw [ltS_ne e, ltS_ne (Ne.symm e), decide_eq_true_eq, decide_eq_true_eq]
    omega
theorem ltQ_trans {p q r : Pr} (h1 : ltQ p q = true) (h2 : ltQ q r = true) : ltQ p r = true := by
  rw [ltQ_eq] at *
  by_cases e : (p.1 : Int) = q.1
  · by_cases e2 : (q.1 : Int) = r.1
    · rw [ltS_eq e] at h1
      rw [ltS_eq e2] at h2
      rw [ltS_eq (e.trans e2)]
      exact strLt_trans h1 h2
    · rw [ltS_ne e2, decide_eq_true_eq] at h2
      simp only at e h2
      rw [ltS_ne (by simp only; omega), decide_eq_true_eq]
      simp only; omega
  · rw [ltS_ne e, decide_eq_true_eq] at h1
    by_cases e2 : (q.1 : Int) = r.1
    · simp only at e2 h1
      rw [ltS_ne (by simp only; omega), decide_eq_true_eq]
      simp only; omega
    · rw [ltS_ne e2, decide_eq_true_eq] at h2
      simp only at h1 h2
      rw [ltS_ne (by simp only; omega), decide_eq_true_eq]
      simp only; omega
theorem ins_up {x : Pr} : ∀ {l : List Pr}, (l.Pairwise fun a b => ltQ a b = true) → x ∉ l → ((ins ltQ x l).Pairwise fun a b => ltQ a b = true)
  | [], _, _ => by simp [ins]
  | y :: l, h, hx => by
    rw [List.pairwise_cons] at h
    unfold ins
    have ne : x ≠ y := fun q => hx (by rw [q]; simp)
    split
    · rename_i hy
      rw [List.pairwise_cons]
      refine ⟨fun a ha => ?_, ins_up h.2 fun q => hx (by simp [q])⟩
      rcases ins_mem.mp ha with rfl | q
      · exact hy
      · exact h.1 a q
    · rename_i hy
      have hxy : ltQ x y = true := (ltQ_total ne).resolve_right (by simpa using hy)
      rw [List.pairwise_cons, List.pairwise_cons]
      refine ⟨fun a ha => ?_, h⟩
      rcases List.mem_cons.mp ha with rfl | q
      · exact hxy
      · exact ltQ_trans hxy (h.1 a q)
theorem isort_up : ∀ {l : List Pr}, l.Nodup → ((isort ltQ l).Pairwise fun a b => ltQ a b = true)
  | [], _ => List.Pairwise.nil
  | x :: l, h => by
    rw [List.nodup_cons] at h
    exact ins_up (isort_up h.2) fun q => h.1 (isort_mem.mp q)
theorem isort_lenP : ∀ {l : List Pr}, (isort ltQ l).length = l.length
  | [] => rfl
  | x :: l => by
    have : ∀ (x : Pr) (l : List Pr), (ins ltQ x l).length = l.length + 1 := fun x l => by
      induction l with
      | nil => rfl
      | cons y l ih =>
        unfold ins
        split
        · simp [ih]
        · rfl
    rw [isort, this, isort_lenP]
    rfl
theorem ltP_pr (p q : Pr) : ltP (prD p) (prD q) = ltQ p q := by
  rw [ltQ_eq]
  show ltL [.inl (p.1 : Int), .inr p.2] [.inl (q.1 : Int), .inr q.2] = _
  unfold ltL
  by_cases e : (p.1 : Int) = q.1
  · rw [if_pos (by rw [e]), ltS_eq e]
    unfold ltL
    by_cases e2 : p.2 = q.2
    · rw [if_pos (by rw [e2])]
      simp only [e2, strLt_irr, ltL]
    · rw [if_neg (by simpa using e2)]
      rfl
  · rw [if_neg (by simpa using e), ltS_ne e]
    rfl
theorem rising_up : ∀ {l : List Pr}, (l.Pairwise fun a b => ltQ a b = true) → rising (l.map prD) = true
  | [], _ => rfl
  | [_], _ => rfl
  | a :: b :: r, h => by
    rw [List.pairwise_cons] at h
    simp only [List.map_cons, rising, ltP_pr, h.1 b (by simp), Bool.true_and]
    exact rising_up h.2
theorem sort_pr {S : Sto} (ps : List Pr) : sortX true (.rol (ps.map prD)) S = some (.rol ((isort ltQ ps).map prD), S) := by
  have a : (ps.map prD).all (fun x => (keyS x).isSome) = true := List.all_eq_true.mpr fun d hd => by
    obtain ⟨p, _, rfl⟩ := List.mem_map.mp hd
    rfl
  simp only [sortX, lstOf_rol, Option.bind_some, if_pos a]
  rw [isort_map prD]
  rfl
/-! ### rows and books that are right -/
def RwOk (n house : Nat) (W : List Str) (ks : List Str) (r : Rw) : Prop := r.st < r.on ∧ r.on < ks.length ∧ leadK (ks.getD r.st "") (ks.getD r.on "") = true ∧
  PairsOk n house W r.tk ∧ r.tk.length ≤ 4 ∧ (r.tk.Pairwise fun a b => ltQ a b = true) ∧ PairsOk n house W r.sd ∧ r.sd.length ≤ 6
def BkOk (n house : Nat) (W : List Str) (b : Bk) : Prop := 1 ≤ b.ks.length ∧ b.ks.length ≤ 8 ∧ (∀ k ∈ b.ks, k ∈ four) ∧ (b.ks.getD 0 "" = "open" ∨ b.ks.getD 0 "" = "yes") ∧ b.rs.length ≤ 12 ∧ ∀ r ∈ b.rs, RwOk n house W b.ks r
theorem lay_ints {α : Type} (L : List α) (f : α → Int) (h : ∀ a ∈ L, (f a).natAbs < 2 ^ 250) : Lay (.rol (L.map fun a => D.int (f a))) := by
  refine ⟨?_, ?_, ?_⟩
  · rw [fitD_rol, fitL_all]
    intro d hd
    obtain ⟨c, hc, rfl⟩ := List.mem_map.mp hd
    rw [fitD_int]
    exact decide_eq_true (h c hc)
  · rw [noD_rol, noL_all]
    intro d hd
    obtain ⟨c, hc, rfl⟩ := List.mem_map.mp hd
    simp
  · rw [dpD_rol]
    have := dpL_most (k := 0) (ds := L.map fun a => D.int (f a)) (fun d hd => by
      obtain ⟨c, hc, rfl⟩ := List.mem_map.mp hd
      simp)
    omega
theorem big250 {n : Nat} (h : n < 1000000) : n < 2 ^ 250 := Nat.lt_of_lt_of_le h (Nat.le_trans (by decide : 1000000 ≤ 2 ^ 20) (Nat.pow_le_pow_right (by decide) (by decide)))
theorem leadsA {x y : Str} (hx : x ∈ four) : Pu (gcZ A_leads) [.str x, .str y] (.bl (leadK x y)) := Pu.of0 lf_bl fun S => by
  refine w_fn rfl ?_
  simp [show ∀ S, inD (.str x) (.tup [.str "done", .str "off"]) S = _ from fun S => in_strs x ["done", "off"] S, show ∀ S, inD (.str y) (.tup [.str "open", .str "yes", .str "off"]) S = _ from fun S => in_strs y ["open", "yes", "off"] S, show ∀ S, inD (.str y) (.tup [.str "yes", .str "done", .str "off"]) S = _ from fun S => in_strs y ["yes", "done", "off"] S]
  simp only [four, List.mem_cons, List.not_mem_nil, or_false] at hx
  rcases hx with rfl | rfl | rfl | rfl
  · exact .inl ⟨⟨by decide +kernel, by decide +kernel⟩, .inr ⟨rfl, by simp [leadK]⟩⟩
  · exact .inl ⟨⟨by decide +kernel, by decide +kernel⟩, .inl ⟨by decide +kernel, by
      have : ¬ (("yes" : Str) = "open") := by decide +kernel
      simp [leadK, this]⟩⟩
  · exact .inr ⟨.inl rfl, by
      have a : ¬ (("done" : Str) = "open") := by decide +kernel
      have b : ¬ (("done" : Str) = "yes") := by decide +kernel
      simp [leadK, a, b]⟩
  · exact .inr ⟨.inr rfl, by
      have a : ¬ (("off" : Str) = "open") := by decide +kernel
      have b : ¬ (("off" : Str) = "yes") := by decide +kernel
      simp [leadK, a, b]⟩
/-- the onto states that a row may have -/
def glL (ks : List Str) (st m : Nat) : List Nat := (List.range' (st + 1) (m - (st + 1))).filter fun o => leadK (ks.getD st "") (ks.getD o "")
def gl (ks : List Str) (st m : Nat) : List D := (glL ks st m).map fun i => D.int (i : Nat)
theorem gl_mem {ks : List Str} {st m : Nat} {d : D} (h : d ∈ gl ks st m) : ∃ o : Nat, d = .int o ∧ st < o ∧ o < m ∧ leadK (ks.getD st "") (ks.getD o "") = true := by
  obtain ⟨o, ho, rfl⟩ := List.mem_map.mp h
  obtain ⟨h1, h2⟩ := List.mem_filter.mp ho
  rw [List.mem_range'] at h1
  obtain ⟨i, h3, h4⟩ := h1
  exact ⟨o, rfl, by omega, by omega, h2⟩
theorem atI_str {ks : List Str} {i : Nat} (h : i < ks.length) : atI (ks.map D.str) (i : Int) = some (.str (ks.getD i "")) := by
  rw [atI_get (by omega) (by rw [List.length_map]; omega)]
  simp [List.getD_eq_getElem?_getD, List.getElem?_eq_getElem h]
theorem lf_rw (r : Rw) : lf (rwD r) := fun n => by
  have a := lf_prs r.tk n
  have b := lf_prs r.sd n
  simp [rwD, a, b]
theorem lf_bk (b : Bk) : lf (bkD b) := fun n => by
  have a : scL n (b.ks.map D.str) = true := scL_all.mpr fun d hd => by
    obtain ⟨x, _, rfl⟩ := List.mem_map.mp hd
    simp
  have c : scL n (b.rs.map rwD) = true := scL_all.mpr fun d hd => by
    obtain ⟨x, _, rfl⟩ := List.mem_map.mp hd
    exact lf_rw x n
  simp [bkD, a, c]
theorem lf_ag (a : Ag) : lf (agD a) := fun n => by
  have c : scL n (a.map bkD) = true := scL_all.mpr fun d hd => by
    obtain ⟨x, _, rfl⟩ := List.mem_map.mp hd
    exact lf_bk x n
  simp [agD, c]
theorem bookA (hd : Draws G draw) {n house most : Nat} (hn : 2 ≤ n) (hn' : n ≤ 4) (hm0 : 1 ≤ most) (hm : most ≤ 8) : Dsp G (gcZ (A_book draw)) [.loc G.dk, .int n, .int house, .int most] (fun d => ∃ b, d = bkD b ∧ BkOk n house W6 b ∧ b.rs.length ≤ 5) := by
  refine Dsp.of fun S h => ?_
  have nat : sizeLine = 16777216 := by decide
  have pk := fun {q : D} {xs : List D} => pickG (q := q) (xs := xs) hd
  refine w_fn rfl ?_
  simp
  refine (hd _ (by omega)).at0 h ?_
  rintro d S1 ⟨r, rfl, r0, r1⟩ h1 f1
  have r1 := r1 (by omega)
  obtain ⟨m, rfl⟩ : ∃ m : Nat, r = m := ⟨r.toNat, by omega⟩
  simp
  refine (pk (q := .rol [.str "open", .str "open", .str "yes"]) (.inl rfl) (by simp) (by simp) (fun x hx => by simp at hx; rcases hx with rfl | rfl | rfl <;> exact lf_str)).at0 h1 ?_
  rintro d S2 hd2 h2 f2
  obtain ⟨k0, rfl, hk0⟩ : ∃ w : Str, d = .str w ∧ (w = "open" ∨ w = "yes") := by
    simp at hd2
    rcases hd2 with rfl | rfl | rfl <;> exact ⟨_, rfl, by simp⟩
  have e1 : (1 : Int) + m - 1 = m := by omega
  simp [e1, rng_small (n := m) (by omega)]
  have g2 := f1.trans f2
  have sl := g2.len
  rw [sl]
  refine for_w (fun ds ρ Sx => (∃ y6 y7 y8 y9 y10 y11 y12, ρ = [some (.loc G.dk), some (.int n), some (.int house), some (.int most), some (.int (1 + m)), some (.loc S.length), y6, y7, y8, y9, y10, y11, y12]) ∧ ∃ (S' : Sto) (ks : List Str), Sx = S' ++ [.lst (ks.map D.str)] ∧ G.ok S' ∧ FQ G.own S S' ∧ (∀ k ∈ ks, k ∈ four) ∧ (ks.getD 0 "" = "open" ∨ ks.getD 0 "" = "yes") ∧ 1 ≤ ks.length ∧ ks.length + ds.length = 1 + m)
    (fun _ _ => False) (fun _ _ => False) (fun _ _ _ _ => rfl) ?_ ?_ (fun _ _ h => h.elim) (fun _ _ h => h.elim) _ _ _ ?_
  · rintro d ds ρ Sx ⟨⟨y6, y7, y8, y9, y10, y11, y12, rfl⟩, S', ks, rfl, h', f', ka, kf, k1, hl⟩
    rw [List.length_cons] at hl
    have c1 : (S' ++ [Cell.lst (ks.map D.str)])[S.length]? = some (.lst (ks.map D.str)) := at_own (j := 0) f'.len rfl
    simp [lst_loc c1]
    refine (pk (q := .rol [.str "open", .str "yes", .str "yes", .str "done", .str "off"]) (.inl rfl) (by simp) (by simp) (fun x hx => by simp at hx; rcases hx with rfl | rfl | rfl | rfl | rfl <;> exact lf_str)).at h' ?_
    rintro d S3 hd3 h3 f3
    obtain ⟨w, rfl, hw⟩ : ∃ w : Str, d = .str w ∧ w ∈ four := by
      simp at hd3
      rcases hd3 with rfl | rfl | rfl | rfl | rfl <;> exact ⟨_, rfl, by unfold four; simp⟩
    have g3 := f'.trans f3
    have c3 : (S3 ++ [Cell.lst (ks.map D.str)])[S.length]? = some (.lst (ks.map D.str)) := at_own (j := 0) g3.len rfl
    rw [app_loc c3 (by rw [List.length_map]; omega), wO_some]
    have e := set_own (S := S) (T := [Cell.lst (ks.map D.str)]) (j := 0) (c := .lst (ks.map D.str ++ [.str w])) g3.len
    simp only [Nat.add_zero] at e
    simp only [e]
    refine ⟨S3, ks ++ [w], by simp, h3, g3, fun k hk => ?_, ?_, by simp, by simp; omega⟩
    · rcases List.mem_append.mp hk with q | q
      · exact ka k q
      · simp at q; rw [q]; exact hw
    · cases ks with
      | nil => simp at k1
      | cons a b => exact kf
  · rintro ρ Sx ⟨⟨y6, y7, y8, y9, y10, y11, y12, rfl⟩, S', ks, rfl, h', f', ka, kf, k1, hl⟩
    have kl : ks.length = 1 + m := by simpa using hl
    have sl' := f'.len
    simp
    refine (hd _ (by omega)).at h' ?_
    rintro d S3 ⟨r, rfl, r0, r1⟩ h3 f3
    have r1 := r1 (by omega)
    have g3 := f'.trans f3
    have rr : rngOk r = true := by unfold rngOk; simp; omega
    simp [rr, sl']
    refine for_w (fun ds ρ Sx => (∃ y6 y8 y9 y10 y11 y12, ρ = [some (.loc G.dk), some (.int n), some (.int house), some (.int most), some (.int (1 + m)), some (.loc S.length), y6, some (.loc (S.length + 1)), y8, y9, y10, y11, y12]) ∧ (∀ d ∈ ds, ∃ i, d = .int i) ∧ ∃ (S' : Sto) (rs : List Rw), Sx = S' ++ [.lst (ks.map D.str), .lst (rs.map rwD)] ∧ G.ok S' ∧ FQ G.own S S' ∧ (∀ r ∈ rs, RwOk n house W6 ks r) ∧ rs.length + ds.length ≤ 5)
      (fun _ _ => False) (fun _ _ => False) (fun _ _ _ _ => rfl) ?_ ?_ (fun _ _ h => h.elim) (fun _ _ h => h.elim) _ _ _ ?_
    · rintro d ds ρ Sx ⟨⟨y6, y8, y9, y10, y11, y12, rfl⟩, hi, S', rs, rfl, h', f', ro, hl⟩
      rw [List.length_cons] at hl
      obtain ⟨t, rfl⟩ := hi d (by simp)
      have hi' : ∀ d ∈ ds, ∃ i, d = .int i := fun d q => hi d (by simp [q])
      refine wO_some.mpr ?_
      rw [w_seq, w_asg]
      refine wO.imp (Q := fun p => ∃ (st : Nat) (S1 : Sto), p = (.int st, S1 ++ [.lst (ks.map D.str), .lst (rs.map rwD)]) ∧ st < 1 + m ∧ G.ok S1 ∧ FQ G.own S S1) ?_ ?_
      · simp
        by_cases q : t < 2
        · exact .inr ⟨q, 0, S', ⟨by simp, rfl⟩, by omega, h', f'⟩
        · refine .inl ⟨by omega, ?_⟩
          refine (hd _ (by omega)).at h' ?_
          rintro d S1 ⟨v, rfl, v0, v1⟩ h1 f1
          have v1 := v1 (by omega)
          exact ⟨v.toNat, S1, by rw [Int.toNat_of_nonneg v0], by omega, h1, f'.trans f1⟩
      rintro p ⟨st, S4, rfl, hst, h4, g4⟩
      have c4 : ∀ T, (S4 ++ (Cell.lst (ks.map D.str) :: T))[S.length]? = some (.lst (ks.map D.str)) := fun T => at_own (j := 0) g4.len rfl
      have r2a : rngOk ((st : Int) + 1) = true := by unfold rngOk; simp; omega
      have r2b : rngOk (1 + (m : Int)) = true := by unfold rngOk; simp; omega
      simp [r2a, r2b, wipeE]
      have goals : ∀ ρ : DD.Env, 12 < ρ.length → ρ[5]? = some (some (.loc S.length)) → ρ[8]? = some (some (.int st)) →
          compL (gN 12) (fun _ => true) (mB (mCall (gcZ A_leads) (mCons (m2 ixD (mV 5) (mV 8)) (mCons (m2 ixD (mV 5) (mV 12)) mNil)))) (mV 12) ρ (rngL ((st : Int) + 1) (1 + (m : Int) - (st + 1)).toNat) [] (S4 ++ [.lst (ks.map D.str), .lst (rs.map rwD)]) = some (gl ks st (1 + m), S4 ++ [.lst (ks.map D.str), .lst (rs.map rwD)]) := by
        intro ρ hr h5 h8
        have er : rngL ((st : Int) + 1) (1 + (m : Int) - (st + 1)).toNat = (List.range' (st + 1) (1 + m - (st + 1))).map fun i => D.int (i : Nat) := by
          have en : (1 + (m : Int) - ((st : Int) + 1)).toNat = 1 + m - (st + 1) := by omega
          rw [en, show ((st : Int) + 1) = ((st + 1 : Nat) : Int) by omega, rngL_range]
        rw [er, comp_fm (fun d => match d with | .int o => leadK (ks.getD st "") (ks.getD o.toNat "") | _ => false) id _ [] (fun d hd' => by
          obtain ⟨o, ho, rfl⟩ := List.mem_map.mp hd'
          rw [List.mem_range'] at ho
          obtain ⟨i, h3, h4⟩ := ho
          have g : (ρ.set 12 (some (D.int o)))[12]? = some (some (.int o)) := List.getElem?_set_self hr
          have g5 : (ρ.set 12 (some (D.int o)))[5]? = some (some (.loc S.length)) := (List.getElem?_set_ne (by decide)).trans h5
          have g8 : (ρ.set 12 (some (D.int o)))[8]? = some (some (.int st)) := (List.getElem?_set_ne (by decide)).trans h8
          have a1 := atI_str (ks := ks) (i := st) (by omega)
          have a2 := atI_str (ks := ks) (i := o) (by omega)
          have kst : ks.getD st "" ∈ four := by
            have : st < ks.length := by omega
            rw [List.getD_eq_getElem?_getD, List.getElem?_eq_getElem this]
            exact ka _ (List.getElem_mem this)
          simp only [w_gN, w_b, w_call, w_cons, w_nil, w_m2, w_v, g, g5, g8, Option.some.injEq, exists_eq_left', ix_loc (c4 _), a1, a2, Option.bind_some, wO_some, (leadsA kst).w]
          simp) (by simp; omega)]
        rw [List.nil_append, List.map_id, List.filter_map]
        rfl
      rw [goals _ (by simp) rfl rfl, wO_some]
      simp only
      have lg : Lay (.rol (gl ks st (1 + m))) := lay_ints (glL ks st (1 + m)) (fun i => (i : Int)) (fun i hi => by
        have := (List.mem_filter.mp hi).1
        rw [List.mem_range'] at this
        obtain ⟨j, h3, h4⟩ := this
        exact big250 (by omega))
      rw [neD_lay lg lay_nilR, wO_some, eqv_nilR]
      by_cases ge : gl ks st (1 + m) = []
      · simp [ge]
        exact ⟨hi', S4, rs, rfl, h4, g4, ro, by omega⟩
      have gf : (gl ks st (1 + m)).isEmpty = false := by simpa using ge
      simp [gf]
      have glen : (gl ks st (1 + m)).length < 1000 := by
        unfold gl glL
        rw [List.length_map]
        have := List.length_filter_le (p := fun o => leadK (ks.getD st "") (ks.getD o "")) (l := List.range' (st + 1) (1 + m - (st + 1)))
        rw [List.length_range'] at this
        omega
      refine (pk (q := .rol [.int 0, .int 0, .int 1, .int 1, .int 2, .int 4]) (.inl rfl) (by simp) (by simp) (fun x hx => by simp at hx; rcases hx with rfl | rfl | rfl | rfl | rfl | rfl <;> exact lf_int)).at h4 ?_
      rintro d S5 hd5 h5 f5
      obtain ⟨c, rfl, hc⟩ : ∃ c : Nat, d = .int c ∧ c ≤ 4 := by
        simp at hd5
        rcases hd5 with rfl | rfl | rfl | rfl <;> first | exact ⟨0, rfl, by omega⟩ | exact ⟨1, rfl, by omega⟩ | exact ⟨2, rfl, by omega⟩ | exact ⟨4, rfl, by omega⟩
      refine (pairsA hd (n := n) (house := house) (most := c) hn hn' (by omega)).at h5 ?_
      rintro d S6 ⟨tk, rfl, tok, tl⟩ h6 f6
      simp [sort_pr]
      refine (pk (q := .rol [.int 0, .int 1, .int 2, .int 3, .int 6]) (.inl rfl) (by simp) (by simp) (fun x hx => by simp at hx; rcases hx with rfl | rfl | rfl | rfl | rfl <;> exact lf_int)).at h6 ?_
      rintro d S7 hd7 h7 f7
      obtain ⟨c2, rfl, hc2⟩ : ∃ c : Nat, d = .int c ∧ c ≤ 6 := by
        simp at hd7
        rcases hd7 with rfl | rfl | rfl | rfl | rfl <;> first | exact ⟨0, rfl, by omega⟩ | exact ⟨1, rfl, by omega⟩ | exact ⟨2, rfl, by omega⟩ | exact ⟨3, rfl, by omega⟩ | exact ⟨6, rfl, by omega⟩
      refine (pairsA hd (n := n) (house := house) (most := c2) hn hn' (by omega)).at h7 ?_
      rintro d S8 ⟨sd, rfl, sok, sl8⟩ h8 f8
      have g8 := ((((g4.trans f5).trans f6).trans f7).trans f8)
      have c8 : ∀ {S9 : Sto}, FQ G.own S S9 → (S9 ++ [Cell.lst (ks.map D.str), Cell.lst (rs.map rwD)])[S.length + 1]? = some (.lst (rs.map rwD)) := fun f => at_own (j := 1) f.len rfl
      simp [lst_loc (c8 g8)]
      refine (pk (q := .rol (gl ks st (1 + m))) (.inl rfl) ge glen (fun x hx => by obtain ⟨o, rfl, _⟩ := gl_mem hx; exact lf_int)).at h8 ?_
      rintro d S9 hd9 h9 f9
      obtain ⟨o, rfl, o1, o2, o3⟩ := gl_mem hd9
      refine (hd 3 (by omega)).at h9 ?_
      rintro d S10 ⟨v, rfl, _, _⟩ h10 f10
      have g10 := (g8.trans f9).trans f10
      simp
      rw [app_loc (c8 g10) (by rw [List.length_map]; omega), wO_some]
      have e := set_own (S := S) (T := [Cell.lst (ks.map D.str), Cell.lst (rs.map rwD)]) (j := 1) (c := .lst (rs.map rwD ++ [.tup [.int st, .tup ((isort ltQ tk).map prD), .int o, .tup (sd.map prD), .bl (decide (v = 0))]])) g10.len
      simp only [e]
      have row : RwOk n house W6 ks ⟨st, isort ltQ tk, o, sd, decide (v = 0)⟩ := by
        refine ⟨o1, by simp only; omega, o3, ⟨?_, fun p hp => tok.2 p (isort_mem.mp hp)⟩, by simp only [isort_lenP]; omega, isort_up tok.1, sok, by simp only; omega⟩
        exact (isort_up tok.1).imp fun h q => by rw [q] at h; rw [ltQ_eq, ltS_eq rfl, strLt_irr] at h; cases h
      exact ⟨hi', S10, rs ++ [⟨st, isort ltQ tk, o, sd, decide (v = 0)⟩], by simp [rwD], h10, g10, fun r hr => by
        rcases List.mem_append.mp hr with q | q
        · exact ro r q
        · simp at q; rw [q]; exact row, by simp; omega⟩
    · rintro ρ Sx ⟨⟨y6, y8, y9, y10, y11, y12, rfl⟩, hi, S', rs, rfl, h', f', ro, hl⟩
      have c0 : (S' ++ [Cell.lst (ks.map D.str), Cell.lst (rs.map rwD)])[S.length]? = some (.lst (ks.map D.str)) := at_own (j := 0) f'.len rfl
      have c1 : (S' ++ [Cell.lst (ks.map D.str), Cell.lst (rs.map rwD)])[S.length + 1]? = some (.lst (rs.map rwD)) := at_own (j := 1) f'.len rfl
      simp [tup_loc c0, tup_loc c1]
      refine Ret.val h' f' ⟨⟨ks, rs⟩, rfl, ⟨k1, by simp only; omega, ka, kf, by simp only; simp at hl; omega, ro⟩, by simpa using hl⟩ (lf_bk ⟨ks, rs⟩)
    · refine ⟨⟨_, _, _, _, _, _, by simp; exact ⟨rfl, rfl, rfl, rfl, rfl, rfl⟩⟩, fun d q => ?_, S3, [], by simp, h3, g3, by simp, ?_⟩
      · obtain ⟨i, e, _⟩ := rngL_int _ _ q
        exact ⟨i, e⟩
      · rw [rngL_len]; simp; omega
  · refine ⟨⟨_, _, _, _, _, _, _, rfl⟩, S2, [k0], rfl, h2, g2, fun k hk => ?_, hk0, by simp, ?_⟩
    · simp at hk; subst hk
      rcases hk0 with rfl | rfl <;> unfold four <;> simp
    · simp [rngL_len]; omega
end DD

/-! Agreements that the first laws draw: those of asking, and drawn ones. -/
namespace DD
open PySem L2
variable {G : Deal} {draw : Fn}
def WA : List Str := ["a", "b", "ok", "sixsix", "do", "ask", "no"]
theorem WA_fit {x : Str} (h : x ∈ WA) : strF x := by
  unfold WA at h
  simp only [List.mem_cons, List.not_mem_nil, or_false] at h
  rcases h with rfl | rfl | rfl | rfl | rfl | rfl | rfl <;> exact ⟨by decide +kernel, by decide +kernel⟩
theorem W6_WA {x : Str} (h : x ∈ W6) : x ∈ WA := by
  unfold W6 at h
  unfold WA
  simp only [List.mem_cons, List.not_mem_nil, or_false] at h ⊢
  rcases h with rfl | rfl | rfl | rfl <;> simp
theorem BkOk.up {n house : Nat} {W W' : List Str} {b : Bk} (h : BkOk n house W b) (w : ∀ x ∈ W, x ∈ W') : BkOk n house W' b := by
  obtain ⟨h1, h2, h3, h4, h5, h6⟩ := h
  refine ⟨h1, h2, h3, h4, h5, fun r hr => ?_⟩
  obtain ⟨a1, a2, a3, a4, a5, a6, a7, a8⟩ := h6 r hr
  exact ⟨a1, a2, a3, ⟨a4.1, fun p hp => ⟨(a4.2 p hp).1, (a4.2 p hp).2.1, w _ (a4.2 p hp).2.2⟩⟩, a5, a6, ⟨a7.1, fun p hp => ⟨(a7.2 p hp).1, (a7.2 p hp).2.1, w _ (a7.2 p hp).2.2⟩⟩, a8⟩
/-- an agreement of n houses that is right -/
def AgOk (n : Nat) (a : Ag) : Prop := 2 ≤ n ∧ n ≤ 4 ∧ a.length = n ∧ ∀ h b, a[h]? = some b → BkOk n h WA b ∧ b.rs.length ≤ 5
/-- a letter of each other house -/
def pw (n : Nat) (w : Str) : List Pr := (List.range' 1 (n - 1)).map fun i => (i, w)
theorem pw_ok {n : Nat} {w : Str} (hw : w ∈ WA) (hn : 2 ≤ n) : PairsOk n 0 WA (pw n w) := by
  refine ⟨?_, fun p hp => ?_⟩
  · unfold pw
    show List.Pairwise _ _
    rw [List.pairwise_map]
    exact (List.nodup_range' (s := 1) (n := n - 1)).imp fun h q => h (Prod.mk.inj q).1
  · obtain ⟨i, hi, rfl⟩ := List.mem_map.mp hp
    rw [List.mem_range'] at hi
    obtain ⟨j, a, b⟩ := hi
    exact ⟨by simp only; omega, by simp only; omega, hw⟩
theorem pw_up {n : Nat} {w : Str} : (pw n w).Pairwise fun a b => ltQ a b = true := by
  unfold pw
  rw [List.pairwise_map]
  refine (List.pairwise_lt_range' (s := 1) (n := n - 1)).imp fun h => ?_
  rw [ltQ_eq, ltS_ne (by simp only; omega)]
  exact decide_eq_true (by simp only; omega)
theorem pw_len {n : Nat} {w : Str} : (pw n w).length = n - 1 := by simp [pw]
theorem pw_comp {S : Sto} {n : Nat} {w : Str} {el : Ex} {ρ : DD.Env} (hn : n ≤ 4) (h : ∀ i : Nat, wO (el (ρ.set 9 (some (.int i))) S) fun y => y = (.tup [.int i, .str w], S)) :
    compL (gN 9) (fun _ => true) mYes el ρ (rngL 1 (n - 1)) [] S = some ((pw n w).map prD, S) := by
  have nat : sizeLine = 16777216 := by decide
  rw [show (1 : Int) = ((1 : Nat) : Int) from rfl, rngL_range, comp_m (fun d => match d with | .int i => .tup [.int i, .str w] | _ => .non) _ [] (fun d hd => by
    obtain ⟨i, _, rfl⟩ := List.mem_map.mp hd
    rw [w_gN]
    simpa using h i) (by simp; omega)]
  rw [List.nil_append, List.map_map, pw, List.map_map]
  rfl
def hubB (n : Nat) (last : Str) (b1 b2 : Bool) : Bk := ⟨four, ⟨0, [], 1, pw n "ask", b1⟩ :: ⟨1, pw n "ok", 2, pw n last, b2⟩ :: (pw n "no").map fun p => ⟨1, [p], 3, [], false⟩⟩
def leafB (last : Str) (b1 b2 b3 : Bool) : Bk := ⟨four, [⟨0, [(0, "ask")], 1, [(0, "ok")], b1⟩, ⟨0, [(0, "ask")], 3, [(0, "no")], b2⟩, ⟨1, [(0, last)], 2, [], b3⟩]⟩
theorem lead01 : leadK (four.getD 0 "") (four.getD 1 "") = true := by decide +kernel
theorem lead03 : leadK (four.getD 0 "") (four.getD 3 "") = true := by decide +kernel
theorem lead12 : leadK (four.getD 1 "") (four.getD 2 "") = true := by decide +kernel
theorem lead13 : leadK (four.getD 1 "") (four.getD 3 "") = true := by decide +kernel
theorem prs0 {n house : Nat} : PairsOk n house WA [] := ⟨List.nodup_nil, by simp⟩
theorem prs1 {n house i : Nat} {w : Str} (h : i < n) (h' : i ≠ house) (hw : w ∈ WA) : PairsOk n house WA [(i, w)] := ⟨by simp, fun p hp => by simp at hp; subst hp; exact ⟨h, h', hw⟩⟩
theorem four_ok : 1 ≤ four.length ∧ four.length ≤ 8 ∧ (∀ k ∈ four, k ∈ four) ∧ (four.getD 0 "" = "open" ∨ four.getD 0 "" = "yes") := ⟨by decide, by decide, fun _ h => h, .inl rfl⟩
theorem inWA : ("ask" : Str) ∈ WA ∧ ("ok" : Str) ∈ WA ∧ ("no" : Str) ∈ WA := by decide +kernel
theorem hubB_ok {n : Nat} {last : Str} {b1 b2 : Bool} (hn : 2 ≤ n) (hn' : n ≤ 4) (hw : last ∈ WA) : BkOk n 0 WA (hubB n last b1 b2) ∧ (hubB n last b1 b2).rs.length ≤ 5 := by
  obtain ⟨a1, a2, a3⟩ := inWA
  have ll : (hubB n last b1 b2).rs.length ≤ 5 := by simp only [hubB, List.length_cons, List.length_map, pw_len]; omega
  obtain ⟨f1, f2, f3, f4⟩ := four_ok
  have four4 : four.length = 4 := rfl
  refine ⟨⟨f1, f2, f3, f4, by omega, fun r hr => ?_⟩, ll⟩
  simp only [hubB, List.mem_cons, List.mem_map] at hr
  rcases hr with rfl | rfl | ⟨p, hp, rfl⟩
  · exact ⟨by simp only; omega, by show 1 < four.length; omega, lead01, prs0, by simp, List.Pairwise.nil, pw_ok a1 hn, by simp only [pw_len]; omega⟩
  · exact ⟨by simp only; omega, by show 2 < four.length; omega, lead12, pw_ok a2 hn, by simp only [pw_len]; omega, pw_up, pw_ok hw hn, by simp only [pw_len]; omega⟩
  · have := (pw_ok a3 hn).2 p hp
    exact ⟨by simp only; omega, by show 3 < four.length; omega, lead13, prs1 this.1 this.2.1 this.2.2, by simp, by simp, prs0, by simp⟩
theorem leafB_ok {n h : Nat} {last : Str} {b1 b2 b3 : Bool} (hn : 2 ≤ n) (h1 : 1 ≤ h) (hw : last ∈ WA) : BkOk n h WA (leafB last b1 b2 b3) ∧ (leafB last b1 b2 b3).rs.length ≤ 5 := by
  obtain ⟨a1, a2, a3⟩ := inWA
  obtain ⟨f1, f2, f3, f4⟩ := four_ok
  have four4 : four.length = 4 := rfl
  refine ⟨⟨f1, f2, f3, f4, by simp [leafB], fun r hr => ?_⟩, by simp [leafB]⟩
  simp only [leafB, List.mem_cons, List.not_mem_nil, or_false] at hr
  rcases hr with rfl | rfl | rfl
  · exact ⟨by simp only; omega, by show 1 < four.length; omega, lead01, prs1 (by omega) (by omega) a1, by simp, by simp, prs1 (by omega) (by omega) a2, by simp⟩
  · exact ⟨by simp only; omega, by show 3 < four.length; omega, lead03, prs1 (by omega) (by omega) a1, by simp, by simp, prs1 (by omega) (by omega) a3, by simp⟩
  · exact ⟨by simp only; omega, by show 2 < four.length; omega, lead12, prs1 (by omega) (by omega) hw, by simp, by simp, prs0, by simp⟩
theorem askingA (hd : Draws G draw) {n : Nat} {last : Str} (hn : 2 ≤ n) (hn' : n ≤ 4) (hw : last ∈ WA) : Dsp G (gcZ (A_asking draw)) [.loc G.dk, .int n, .str last] (fun d => ∃ a, d = agD a ∧ AgOk n a) := by
  refine Dsp.of fun S h => ?_
  have nat : sizeLine = 16777216 := by decide
  refine w_fn rfl ?_
  have e1 : ((n : Int) - 1).toNat = n - 1 := by omega
  have r1 : rngOk (1 : Int) = true := by decide
  simp [rng_small (n := n) (by omega), r1, e1, wipeE]
  refine ⟨?_, by omega⟩
  rw [pw_comp (w := "ok") hn' (fun i => by simp), wO_some]
  simp
  rw [pw_comp (w := last) hn' (fun i => by simp), wO_some]
  simp
  rw [pw_comp (w := "ask") hn' (fun i => by simp), wO_some]
  simp
  intro _
  refine (hd 2 (by omega)).at0 h ?_
  rintro d S1 ⟨v1, rfl, _, _⟩ h1 f1
  have l1 := f1.len
  have c1 : ∀ {S' : Sto} {x : Cell} {T : Sto}, S'.length = S.length → (S' ++ (x :: T))[S.length]? = some x := fun q => at_own (j := 0) q rfl
  simp [l1, lst_loc (c1 l1)]
  refine (hd 2 (by omega)).at h1 ?_
  rintro d S2 ⟨v2, rfl, _, _⟩ h2 f2
  have g2 := f1.trans f2
  have l2 := g2.len
  simp
  rw [app_loc (c1 l2) (by simp; omega), wO_some]
  have e := set_own (S := S) (T := [Cell.lst [rwD ⟨0, [], 1, pw n "ask", decide (v1 = 0)⟩]]) (j := 0) (c := .lst [rwD ⟨0, [], 1, pw n "ask", decide (v1 = 0)⟩, rwD ⟨1, pw n "ok", 2, pw n last, decide (v2 = 0)⟩]) l2
  simp [rwD] at e
  simp [e]
  have noc : ∀ (ρ : DD.Env) (S : Sto), 9 < ρ.length → compL (gN 9) (fun _ => true) mYes (mTup (mCons (mC (.int 1)) (mCons (mTup (mCons (mTup (mCons (mV 9) (mCons (mC (.str "no")) mNil))) mNil)) (mCons (mC (.int 3)) (mCons (mTup mNil) (mCons (mC (.bl false)) mNil)))))) ρ (rngL 1 (n - 1)) [] S = some ((pw n "no").map (fun p => rwD ⟨1, [p], 3, [], false⟩), S) := fun ρ S hr => by
    rw [show (1 : Int) = ((1 : Nat) : Int) from rfl, rngL_range, comp_m (fun d => .tup [.int 1, .tup [.tup [d, .str "no"]], .int 3, .tup [], .bl false]) _ [] (fun d hd => by
      obtain ⟨i, _, rfl⟩ := List.mem_map.mp hd
      have g : (ρ.set 9 (some (D.int i)))[9]? = some (some (.int i)) := List.getElem?_set_self hr
      simp [g]) (by simp; omega)]
    rw [List.nil_append, List.map_map, pw, List.map_map]
    rfl
  rw [noc _ _ (by simp), wO_some]
  simp only
  rw [addX_locR (c1 l2), if_pos (by simp [pw_len]; omega), wO_some]
  simp [l2]
  have c2 : ∀ {S' : Sto} {x y : Cell} {T : Sto}, S'.length = S.length → (S' ++ (x :: y :: T))[S.length + 1]? = some y := fun q => at_own (j := 1) q rfl
  rw [tup_loc (c2 l2), wO_some]
  generalize hca : Cell.lst [D.tup [D.int 0, D.tup [], D.int 1, D.tup (List.map prD (pw n "ask")), D.bl (decide (v1 = 0))], D.tup [D.int 1, D.tup (List.map prD (pw n "ok")), D.int 2, D.tup (List.map prD (pw n last)), D.bl (decide (v2 = 0))]] = ca
  have zero := hubB_ok (b1 := decide (v1 = 0)) (b2 := decide (v2 = 0)) hn hn' hw
  have ez : D.tup [D.tup [D.str "open", D.str "yes", D.str "done", D.str "off"], D.tup (D.tup [D.int 0, D.tup [], D.int 1, D.tup (List.map prD (pw n "ask")), D.bl (decide (v1 = 0))] :: D.tup [D.int 1, D.tup (List.map prD (pw n "ok")), D.int 2, D.tup (List.map prD (pw n last)), D.bl (decide (v2 = 0))] :: (pw n "no").map (fun p => rwD ⟨1, [p], 3, [], false⟩))] = bkD (hubB n last (decide (v1 = 0)) (decide (v2 = 0))) := by
    simp only [bkD, hubB, four, List.map_cons, List.map_nil, List.map_map]
    rfl
  generalize hcb : Cell.lst (D.tup [D.int 0, D.tup [], D.int 1, D.tup (List.map prD (pw n "ask")), D.bl (decide (v1 = 0))] :: D.tup [D.int 1, D.tup (List.map prD (pw n "ok")), D.int 2, D.tup (List.map prD (pw n last)), D.bl (decide (v2 = 0))] :: (pw n "no").map (fun p => rwD ⟨1, [p], 3, [], false⟩)) = cb
  simp only [ez]
  simp [l2]
  refine for_w (fun ds ρ Sx => (∃ y9 y10, ρ = [some (.loc G.dk), some (.int n), some (.str last), some (.tup [.str "open", .str "yes", .str "done", .str "off"]), some (.rol (rngL 1 (n - 1))), some (.tup ((pw n "ok").map prD)), some (.tup ((pw n last).map prD)), some (.loc (S.length + 1)), some (.loc (S.length + 2)), y9, y10]) ∧ ∃ (S' T' : Sto) (bs : List Bk), Sx = S' ++ (ca :: cb :: .lst (bs.map bkD) :: T') ∧ G.ok S' ∧ FQ G.own S S' ∧ bs.length + ds.length = n ∧ 1 ≤ bs.length ∧ ∀ h b, bs[h]? = some b → BkOk n h WA b ∧ b.rs.length ≤ 5)
    (fun _ _ => False) (fun _ _ => False) (fun _ _ _ _ => rfl) ?_ ?_ (fun _ _ h => h.elim) (fun _ _ h => h.elim) _ _ _ ?_
  · rintro d ds ρ Sx ⟨⟨y9, y10, rfl⟩, S', T', bs, rfl, h', f', hl, hb1, hb⟩
    rw [List.length_cons] at hl
    simp
    refine (hd 2 (by omega)).at h' ?_
    rintro d S3 ⟨w1, rfl, _, _⟩ h3 f3
    have g3 := f'.trans f3
    have l3 := g3.len
    have tl : ∀ {x : Cell}, (S3 ++ (ca :: cb :: Cell.lst (bs.map bkD) :: (T' ++ [x])))[S.length + (T'.length + 1 + 1 + 1)]? = some x := at_own (T := ca :: cb :: Cell.lst (bs.map bkD) :: (T' ++ [_])) (j := T'.length + 1 + 1 + 1) l3 (by simp)
    simp [l3, lst_loc tl]
    refine (hd 2 (by omega)).at h3 ?_
    rintro d S4 ⟨w2, rfl, _, _⟩ h4 f4
    have g4 := g3.trans f4
    have l4 := g4.len
    have tl4 : ∀ {x : Cell}, (S4 ++ (ca :: cb :: Cell.lst (bs.map bkD) :: (T' ++ [x])))[S.length + (T'.length + 1 + 1 + 1)]? = some x := at_own (T := ca :: cb :: Cell.lst (bs.map bkD) :: (T' ++ [_])) (j := T'.length + 1 + 1 + 1) l4 (by simp)
    have st4 : ∀ {x y : Cell}, (S4 ++ (ca :: cb :: Cell.lst (bs.map bkD) :: (T' ++ [x]))).set (S.length + (T'.length + 1 + 1 + 1)) y = S4 ++ (ca :: cb :: Cell.lst (bs.map bkD) :: (T' ++ [y])) := fun {x y} => by
      rw [set_own (T := ca :: cb :: Cell.lst (bs.map bkD) :: (T' ++ [x])) (j := T'.length + 1 + 1 + 1) (c := y) l4]
      simp
    have fl4 : ∀ {S' T : Sto}, S'.length = S.length → (S' ++ (ca :: cb :: Cell.lst (bs.map bkD) :: T))[S.length + 2]? = some (.lst (bs.map bkD)) := fun q => at_own (j := 2) q rfl
    simp
    rw [app_loc tl4 (by simp; omega), wO_some]
    simp only [st4]
    rw [lst_loc (fl4 l4), wO_some]
    refine (hd 2 (by omega)).at h4 ?_
    rintro d S5 ⟨w3, rfl, _, _⟩ h5 f5
    have g5 := g4.trans f5
    have l5 := g5.len
    have tl5 : ∀ {x : Cell}, (S5 ++ (ca :: cb :: Cell.lst (bs.map bkD) :: (T' ++ [x])))[S.length + (T'.length + 1 + 1 + 1)]? = some x := at_own (T := ca :: cb :: Cell.lst (bs.map bkD) :: (T' ++ [_])) (j := T'.length + 1 + 1 + 1) l5 (by simp)
    simp
    rw [addX_locR tl5, if_pos (by simp; omega), wO_some]
    simp
    rw [app_loc (fl4 l5) (by simp; omega), wO_some]
    have e : D.tup [D.tup [D.str "open", D.str "yes", D.str "done", D.str "off"], D.tup [D.tup [D.int 0, D.tup [D.tup [D.int 0, D.str "ask"]], D.int 1, D.tup [D.tup [D.int 0, D.str "ok"]], D.bl (decide (w1 = 0))], D.tup [D.int 0, D.tup [D.tup [D.int 0, D.str "ask"]], D.int 3, D.tup [D.tup [D.int 0, D.str "no"]], D.bl (decide (w2 = 0))], D.tup [D.int 1, D.tup [D.tup [D.int 0, D.str last]], D.int 2, D.tup [], D.bl (decide (w3 = 0))]]] = bkD (leafB last (decide (w1 = 0)) (decide (w2 = 0)) (decide (w3 = 0))) := rfl
    rw [e, set_own (T := ca :: cb :: Cell.lst (bs.map bkD) :: (T' ++ [_])) (j := 2) l5]
    refine ⟨S5, T' ++ [_], bs ++ [leafB last (decide (w1 = 0)) (decide (w2 = 0)) (decide (w3 = 0))], by simp; rfl, h5, g5, by simp; omega, by simp, fun h b q => ?_⟩
    rw [List.getElem?_append] at q
    split at q
    · exact hb h b q
    · have : h = bs.length := by
        have := get_lt q
        simp at this
        omega
      subst this
      simp at q
      subst q
      exact leafB_ok hn hb1 hw
  · rintro ρ Sx ⟨⟨y9, y10, rfl⟩, S', T', bs, rfl, h', f', hl, hb1, hb⟩
    have c3 : (S' ++ (ca :: cb :: Cell.lst (bs.map bkD) :: T'))[S.length + 2]? = some (.lst (bs.map bkD)) := at_own (j := 2) f'.len rfl
    simp [tup_loc c3]
    exact Ret.val h' f' ⟨bs, rfl, hn, hn', by simpa using hl, hb⟩ (lf_ag bs)
  · refine ⟨⟨_, _, rfl⟩, S2, [], [hubB n last (decide (v1 = 0)) (decide (v2 = 0))], by simp, h2, g2, ?_, by simp, fun h b e => ?_⟩
    · rw [rngL_len]; simp; omega
    · cases h with
      | zero => simp at e; subst e; exact zero
      | succ h => simp at e
theorem agreementA (hd : Draws G draw) : Dsp G (gcZ (A_agreement draw)) [.loc G.dk] (fun d => ∃ n a, d = agD a ∧ AgOk n a) := by
  refine Dsp.of fun S h => ?_
  have nat : sizeLine = 16777216 := by decide
  have pk := fun {q : D} {xs : List D} => pickG (q := q) (xs := xs) hd
  refine w_fn rfl ?_
  simp
  refine (pk (q := .rol [.int 2, .int 2, .int 3, .int 3, .int 4]) (.inl rfl) (by simp) (by simp) (fun x hx => by simp at hx; rcases hx with rfl | rfl | rfl <;> exact lf_int)).at0 h ?_
  rintro d S1 hd1 h1 f1
  obtain ⟨n, rfl, hn, hn'⟩ : ∃ c : Nat, d = .int c ∧ 2 ≤ c ∧ c ≤ 4 := by
    simp at hd1
    rcases hd1 with rfl | rfl | rfl <;> first | exact ⟨2, rfl, by omega, by omega⟩ | exact ⟨3, rfl, by omega, by omega⟩ | exact ⟨4, rfl, by omega, by omega⟩
  refine (hd 3 (by omega)).at0 h1 ?_
  rintro d S2 ⟨v, rfl, _, _⟩ h2 f2
  have g2 := f1.trans f2
  simp
  by_cases v0 : v = 0
  · refine .inr ⟨v0, ?_⟩
    refine (pk (q := .rol [.str "do", .str "a", .str "ok"]) (.inl rfl) (by simp) (by simp) (fun x hx => by simp at hx; rcases hx with rfl | rfl | rfl <;> exact lf_str)).at0 h2 ?_
    rintro d S3 hd3 h3 f3
    obtain ⟨w, rfl, hw⟩ : ∃ w : Str, d = .str w ∧ w ∈ WA := by
      simp at hd3
      rcases hd3 with rfl | rfl | rfl <;> exact ⟨_, rfl, by decide +kernel⟩
    refine (askingA hd hn hn' hw).at0 h3 ?_
    rintro d S4 ⟨a, rfl, ha⟩ h4 f4
    exact Ret.val0 h4 (g2.trans (f3.trans f4)) ⟨n, a, rfl, ha⟩ (lf_ag a)
  · refine .inl ⟨v0, ?_⟩
    simp [rng_small (n := n) (by omega), wipeE]
    refine comp_w (fun ds acc Sx => ∃ (S' : Sto) (bs : List Bk), Sx = S' ∧ acc = bs.map bkD ∧ G.ok S' ∧ FQ G.own S S' ∧ ds = (List.range' bs.length (n - bs.length)).map (fun i => D.int (i : Nat)) ∧ bs.length ≤ n ∧ ∀ h b, bs[h]? = some b → BkOk n h WA b ∧ b.rs.length ≤ 5) (fun _ _ _ _ => rfl) ?_ ?_ _ _ _ ?_
    · rintro d ds acc Sx ⟨S', bs, rfl, rfl, h', f', hd', hl, hb⟩
      have hlt : bs.length < n := by
        rcases Nat.lt_or_ge bs.length n with q | q
        · exact q
        · rw [show n - bs.length = 0 by omega] at hd'; cases hd'
      rw [show n - bs.length = (n - (bs.length + 1)) + 1 by omega, List.range'_succ, List.map_cons] at hd'
      cases hd'
      simp
      refine (pk (q := .rol [.int 3, .int 4, .int 5, .int 8]) (.inl rfl) (by simp) (by simp) (fun x hx => by simp at hx; rcases hx with rfl | rfl | rfl | rfl <;> exact lf_int)).at0 h' ?_
      rintro d S3 hd3 h3 f3
      obtain ⟨c, rfl, c1, c2⟩ : ∃ c : Nat, d = .int c ∧ 1 ≤ c ∧ c ≤ 8 := by
        simp at hd3
        rcases hd3 with rfl | rfl | rfl | rfl <;> first | exact ⟨3, rfl, by omega, by omega⟩ | exact ⟨4, rfl, by omega, by omega⟩ | exact ⟨5, rfl, by omega, by omega⟩ | exact ⟨8, rfl, by omega, by omega⟩
      refine (bookA hd (house := bs.length) hn hn' c1 c2).at0 h3 ?_
      rintro d S4 ⟨b, rfl, hb1, hb2⟩ h4 f4
      refine ⟨by omega, ?_⟩
      refine ⟨bs ++ [b], by simp, h4, f'.trans (f3.trans f4), by simp, by simp; omega, fun h c q => ?_⟩
      rw [List.getElem?_append] at q
      split at q
      · exact hb h c q
      · have : h = bs.length := by
          have := get_lt q
          simp at this
          omega
        subst this
        simp at q
        subst q
        exact ⟨hb1.up fun x hx => W6_WA hx, hb2⟩
    · rintro acc Sx ⟨S', bs, rfl, rfl, h', f', hd', hl, hb⟩
      have : bs.length = n := by
        have := congrArg List.length hd'
        simp at this
        omega
      simp
      exact Ret.val0 h' f' ⟨n, bs, rfl, hn, hn', this, hb⟩ (lf_ag bs)
    · exact ⟨S2, [], rfl, rfl, h2, g2, by simp; rw [rngL_zero, List.range_eq_range'], by simp, by simp⟩
end DD

/-! How great drawn data is. -/
namespace DD
open PySem L2
def Fw (w k : Nat) (d : D) : Prop := fitD d = true ∧ wtD d ≤ w ∧ dpD d ≤ k
def FL (w k : Nat) (ds : List D) : Prop := fitL ds = true ∧ wtL ds ≤ w ∧ dpL ds ≤ k
variable {w w' k k' : Nat} {d e : D} {ds es : List D}
theorem Fw.up (h : Fw w k d) (a : w ≤ w') (b : k ≤ k') : Fw w' k' d := ⟨h.1, by have := h.2.1; omega, by have := h.2.2; omega⟩
theorem FL.up (h : FL w k ds) (a : w ≤ w') (b : k ≤ k') : FL w' k' ds := ⟨h.1, by have := h.2.1; omega, by have := h.2.2; omega⟩
theorem FL.tup (h : FL w k ds) : Fw w (k + 1) (.tup ds) := ⟨by simpa using h.1, by simpa using h.2.1, by simpa using h.2.2⟩
theorem FL.rol (h : FL w k ds) : Fw w (k + 1) (.rol ds) := ⟨by simpa using h.1, by simpa using h.2.1, by simpa using h.2.2⟩
theorem FL.nil : FL 0 k [] := ⟨by simp, by simp, by simp⟩
theorem FL.cons (h : Fw w k d) (h' : FL w' k ds) : FL (w + 1 + w') k (d :: ds) := ⟨by simp [h.1, h'.1], by simp; have := h.2.1; have := h'.2.1; omega, by simp; have := h.2.2; have := h'.2.2; omega⟩
theorem FL.one (h : Fw w k d) : FL (w + 1) k [d] := FL.cons h FL.nil
theorem dpL_app : ∀ {ds es : List D}, dpL (ds ++ es) = max (dpL ds) (dpL es)
  | [], _ => by simp
  | d :: ds, es => by simp [dpL_app (ds := ds), Nat.max_assoc]
theorem FL.app (h : FL w k ds) (h' : FL w' k es) : FL (w + w') k (ds ++ es) := ⟨by simp [h.1, h'.1], by simp; have := h.2.1; have := h'.2.1; omega, by rw [dpL_app]; have := h.2.2; have := h'.2.2; omega⟩
theorem FL.take (h : FL w k ds) (n : Nat) : FL w k (ds.take n) := by
  have e := List.take_append_drop n ds
  obtain ⟨h1, h2, h3⟩ := h
  rw [← e, fitL_app, Bool.and_eq_true] at h1
  rw [← e, wtL_app] at h2
  rw [← e, dpL_app] at h3
  exact ⟨h1.1, by omega, by omega⟩
theorem FL.drop (h : FL w k ds) (n : Nat) : FL w k (ds.drop n) := by
  have e := List.take_append_drop n ds
  obtain ⟨h1, h2, h3⟩ := h
  rw [← e, fitL_app, Bool.and_eq_true] at h1
  rw [← e, wtL_app] at h2
  rw [← e, dpL_app] at h3
  exact ⟨h1.2, by omega, by omega⟩
theorem FL.cut (h : FL w k ds) (a b : Option Int) : FL w k (cutD ds a b) := (h.drop _).take _
theorem FL.mem (h : FL w k ds) (hd : d ∈ ds) : Fw w k d := ⟨fitL_all.mp h.1 d hd, by have := wtL_mem hd; have := h.2.1; omega, by have := dpL_mem hd; have := h.2.2; omega⟩
theorem FL.most {m : Nat} (h : ∀ d ∈ ds, Fw w k d) (hl : ds.length ≤ m) : FL (m * (w + 1)) k ds := ⟨fitL_all.mpr fun d hd => (h d hd).1, Nat.le_trans (wtL_most fun d hd => (h d hd).2.1) (Nat.mul_le_mul_right _ hl), dpL_most fun d hd => (h d hd).2.2⟩
theorem FL.rev (h : FL w k ds) : FL w k ds.reverse := by
  refine ⟨fitL_all.mpr fun d hd => fitL_all.mp h.1 d (List.mem_reverse.mp hd), ?_, dpL_most fun d hd => by have := dpL_mem (List.mem_reverse.mp hd); have := h.2.2; omega⟩
  have : ∀ ds : List D, wtL ds.reverse = wtL ds := fun ds => by
    induction ds with
    | nil => rfl
    | cons d ds ih => simp [ih]; omega
  rw [this]
  exact h.2.1
theorem Fw.cutT (h : Fw w (k + 1) (.tup ds)) (a b : Option Int) : Fw w (k + 1) (.tup (cutD ds a b)) := by
  have : FL w k ds := ⟨by simpa using h.1, by simpa using h.2.1, by simpa using h.2.2⟩
  exact (this.cut a b).tup
theorem Fw.kids (h : Fw w (k + 1) (.tup ds)) : FL w k ds := ⟨by simpa using h.1, by simpa using h.2.1, by simpa using h.2.2⟩
theorem Fw.kidsR (h : Fw w (k + 1) (.rol ds)) : FL w k ds := ⟨by simpa using h.1, by simpa using h.2.1, by simpa using h.2.2⟩
theorem Fw.fit (h : Fw w k d) (a : w ≤ 150000) (b : k ≤ 50) : Fit d := ⟨h.1, by have := h.2.1; omega, by have := h.2.2; omega⟩
theorem Fw.lf (h : Fw w k d) : lf d := lf_fit h.1
theorem fwS {x : Str} (h : strF x) : Fw 10 0 (.str x) := ⟨h.1, by simpa using h.2, by simp⟩
theorem fwI {i : Int} (h : i.natAbs < 2 ^ 250) : Fw 300 0 (.int i) := ⟨by rw [fitD_int]; exact decide_eq_true h, wt_int_le, by simp⟩
theorem fwi {i : Int} (h : i.natAbs < 1024) : Fw 10 0 (.int i) := ⟨by rw [fitD_int]; exact decide_eq_true (big250 (by omega)), by rw [wt_small h]; exact Nat.le_refl _, by simp⟩
theorem fwN : Fw 0 0 .non := ⟨by simp, by simp, by simp⟩
theorem fwB {b : Bool} : Fw 0 0 (.bl b) := ⟨by simp, by simp, by simp⟩
theorem fwR0 : Fw 0 1 (.rod [] []) := ⟨by simp [fitD], by simp [wtD], by simp [dpD]⟩
theorem fwT0 : Fw 0 1 (.tup []) := FL.nil.tup
/-- all of them so -/
def FA (w k : Nat) (ds : List D) : Prop := ∀ d ∈ ds, Fw w k d
@[simp] theorem fa_nil : FA w k [] := by simp [FA]
@[simp] theorem fa_cons : FA w k (d :: ds) ↔ Fw w k d ∧ FA w k ds := by simp [FA]
@[simp] theorem fa_app : FA w k (ds ++ es) ↔ FA w k ds ∧ FA w k es := by
  simp only [FA, List.mem_append]
  exact ⟨fun h => ⟨fun d q => h d (.inl q), fun d q => h d (.inr q)⟩, fun h d q => q.elim (h.1 d) (h.2 d)⟩
theorem FA.lf (h : FA w k ds) : ∀ d ∈ ds, lf d := fun d q => (h d q).lf
theorem FL.all (h : FL w k ds) : FA w k ds := fun d q => h.mem q
/-- pairs, rows, books, agreements of small size -/
def PrF (p : Pr) : Prop := p.1 < 1000 ∧ strF p.2
def RwF (r : Rw) : Prop := r.st < 1000 ∧ r.on < 1000 ∧ r.tk.length ≤ 6 ∧ (∀ p ∈ r.tk, PrF p) ∧ r.sd.length ≤ 6 ∧ ∀ p ∈ r.sd, PrF p
def BkF (b : Bk) : Prop := 1 ≤ b.ks.length ∧ b.ks.length ≤ 8 ∧ (∀ x ∈ b.ks, strF x) ∧ b.rs.length ≤ 5 ∧ ∀ r ∈ b.rs, RwF r
theorem four_F {x : Str} (h : x ∈ four) : strF x := by
  unfold four at h
  simp only [List.mem_cons, List.not_mem_nil, or_false] at h
  rcases h with rfl | rfl | rfl | rfl <;> exact ⟨by decide +kernel, by decide +kernel⟩
theorem RwOk.f {n house : Nat} {ks : List Str} {r : Rw} (h : RwOk n house WA ks r) (hn : n ≤ 4) (hk : ks.length ≤ 8) : RwF r := by
  obtain ⟨h1, h2, h3, h4, h5, h6, h7, h8⟩ := h
  exact ⟨by omega, by omega, by omega, fun p hp => ⟨by have := (h4.2 p hp).1; omega, WA_fit (h4.2 p hp).2.2⟩, h8, fun p hp => ⟨by have := (h7.2 p hp).1; omega, WA_fit (h7.2 p hp).2.2⟩⟩
theorem BkOk.f {n house : Nat} {b : Bk} (h : BkOk n house WA b) (hn : n ≤ 4) (hr : b.rs.length ≤ 5) : BkF b := by
  obtain ⟨h1, h2, h3, h4, h5, h6⟩ := h
  exact ⟨h1, h2, fun x hx => four_F (h3 x hx), hr, fun r q => (h6 r q).f hn h2⟩
theorem fw_pr {p : Pr} (h : PrF p) : Fw 22 1 (prD p) := (FL.cons (fwi (i := p.1) (by have := h.1; omega)) (FL.one (fwS h.2))).tup
theorem fl_prs {ps : List Pr} (hl : ps.length ≤ 6) (h : ∀ p ∈ ps, PrF p) : FL 138 1 (ps.map prD) := FL.most (m := 6) (w := 22) (fun d hd => by
  obtain ⟨p, hp, rfl⟩ := List.mem_map.mp hd
  exact fw_pr (h p hp)) (by simpa using hl)
theorem fw_rw {r : Rw} (h : RwF r) : Fw 301 3 (rwD r) := by
  obtain ⟨h1, h2, h3, h4, h5, h6⟩ := h
  exact (FL.cons (w := 10) ((fwi (i := r.st) (by omega)).up (by omega) (by omega)) (FL.cons (fl_prs h3 h4).tup (FL.cons (w := 10) ((fwi (i := r.on) (by omega)).up (by omega) (by omega)) (FL.cons (fl_prs h5 h6).tup (FL.one (fwB.up (Nat.le_refl 0) (by omega))))))).tup
theorem fl_rs {b : Bk} (h : BkF b) : FL 1510 3 (b.rs.map rwD) := FL.most (m := 5) (w := 301) (fun d hd => by
  obtain ⟨p, hp, rfl⟩ := List.mem_map.mp hd
  exact fw_rw (h.2.2.2.2 p hp)) (by simpa using h.2.2.2.1)
theorem fl_ks {b : Bk} (h : BkF b) : FL 88 0 (b.ks.map D.str) := FL.most (m := 8) (w := 10) (fun d hd => by
  obtain ⟨p, hp, rfl⟩ := List.mem_map.mp hd
  exact fwS (h.2.2.1 p hp)) (by simpa using h.2.1)
theorem fw_bk {b : Bk} (h : BkF b) : Fw 1600 5 (bkD b) := ((FL.cons ((fl_ks h).tup.up (Nat.le_refl _) (by omega)) (FL.one (fl_rs h).tup)).tup).up (by omega) (by omega)
theorem AgOk.f {n : Nat} {a : Ag} (h : AgOk n a) : ∀ b ∈ a, BkF b := fun b hb => by
  obtain ⟨h1, h2, h3, h4⟩ := h
  obtain ⟨i, hi⟩ := List.getElem?_of_mem hb
  exact (h4 i b hi).1.f h2 (h4 i b hi).2
theorem fl_ag {n : Nat} {a : Ag} (h : AgOk n a) : FL 6404 5 (a.map bkD) := FL.most (m := 4) (w := 1600) (fun d hd => by
  obtain ⟨b, hb, rfl⟩ := List.mem_map.mp hd
  exact fw_bk (h.f b hb)) (by simp; have := h.2.1; have := h.2.2.1; omega)
theorem rep_mem {α : Type} {n : Nat} {xs : List α} {x : α} (h : x ∈ (List.replicate n xs).flatten) : x ∈ xs := by
  obtain ⟨l, h1, h2⟩ := List.mem_flatten.mp h
  rw [List.eq_of_mem_replicate h1] at h2
  exact h2
theorem cut_mem {x : D} {a b : Option Int} (h : x ∈ cutD ds a b) : x ∈ ds := List.mem_of_mem_drop (List.mem_of_mem_take h)
theorem cut_to (xs : List D) (i : Nat) : cutD xs none (some (i : Int)) = xs.take i := by
  unfold cutD
  rw [HT.sIx_none, HT.sIx_nat, List.drop_zero, Nat.sub_zero]
  by_cases h : i ≤ xs.length
  · rw [Nat.min_eq_left h]
  · rw [Nat.min_eq_right (by omega), List.take_of_length_le (Nat.le_refl _), List.take_of_length_le (by omega)]
end DD

/-! list.pop(i); dicts of three written keys. -/
namespace DD
open PySem L2
theorem RepL.eraseIdx {K : PySem.W.Frag} {H : Hp} {m : List Addr} {ds : List D} {vs : List V} (r : RepL K H m ds vs) (k : Nat) : RepL K H m (ds.eraseIdx k) (vs.eraseIdx k) := by
  rw [List.eraseIdx_eq_take_drop_succ, List.eraseIdx_eq_take_drop_succ]
  exact (r.take _).app (r.drop _)
def popAtD (d e : D) (S : Sto) : Option (D × Sto) := match d, e with
  | .loc n, .int i => match S[n]? with
    | some (.lst ds) => (ixN ds.length i).bind fun k => (ds[k]?).bind fun x => if ds.length ≤ sizeLine then some (x, S.set n (.lst (ds.eraseIdx k))) else none
    | _ => none
  | _, _ => none
theorem popAt_rep {K : PySem.W.Frag} {H : Hp} {m : List Addr} {S S' : Sto} {d e d' : D} {v u : V} {Q : VK} (s : StR K H m S) (r : Rep K H m d v) (r2 : Rep K H m e u) (h : popAtD d e S = some (d', S'))
    (q : ∀ v H' m', Ext H m H' m' → StR K H' m' S' → Rep K H' m' d' v → Q v H') : rPopAt v [u] H Q := by
  match d, e, h with
  | .loc n, .int i, h =>
    cases r2
    simp only [popAtD] at h
    cases hn : S[n]? with
    | none => rw [hn] at h; cases h
    | some cl =>
      rw [hn] at h
      cases cl with
      | dic _ => cases h
      | lst ds =>
        obtain ⟨k, h0, h⟩ := obind h
        obtain ⟨x, h1, h⟩ := obind h
        by_cases hz : ds.length ≤ sizeLine
        · rw [if_pos hz] at h
          cases h
          obtain ⟨a', vs, rfl, hm, e1, rs⟩ := s.lst r hn
          obtain ⟨y, g1, g2⟩ := rs.get h1
          obtain ⟨q1, q2⟩ := putL s hm (rs.eraseIdx k)
          obtain ⟨i1, i2, i3, i4⟩ := ixN_seq h0
          have sz : sizeLine = 16777216 := by decide
          rw [rs.length] at i1 i3 i4 hz
          exact ⟨a', vs, i, k, y, rfl, rfl, e1, by omega, by omega, i1, g1, q _ _ m q1 q2 (g2.mono s q1)⟩
        · rw [if_neg hz] at h; cases h
theorem de_popAt {X : Cx} {a e : Expr} {fa : Ex} {ga : As} {pos apos : Pos} (ho : DE X a fa) (ha : DA X [e] ga) (hbase : attributeBase a "pop" X.env (eval a X.env) = eval a X.env := by rfl)
    (hfew : ((backTo pos (starEach [e] X.env)).all (fun x => !x.1) && (backToKw pos (keywordEach [] X.env)).all (fun x => x.1.isSome) && decide ([e].length + ([] : List Keyword).length + (if ([] : List Keyword).isEmpty then 0 else 1) < 30)) = true := by rfl)
    (hline : (apos.endLine == pos.line) = true := by rfl) (hs : starEach [e] X.env = (false, eval e X.env) :: starEach [] X.env := by rfl) : DE X (.Call (.Attribute a "pop" apos) [e] [] pos) (mMeth1 popAtD fa ga) :=
  pew (pe_bm PySem.F.plainAttrs_list PySem.F.slot_list_pop PySem.F.type_list_pop mt_popAt ho ha.pa hbase hfew hline hs) fun σ H Q h => by
    obtain ⟨ρ, S, m, d, S', E, st, hf, q⟩ := h
    obtain ⟨p1, h1, hf⟩ := obind hf
    obtain ⟨ls, hls, hf⟩ := obind hf
    obtain ⟨p2, h2, hf⟩ := obind hf
    have hlen := ha.len _ _ _ _ h2
    refine ⟨ρ, S, m, p1.1, p1.2, E, st, h1, fun v H1 m1 x1 s1 r1 => ⟨tyL s1 r1 hls, ρ, p1.2, m1, p2.1, p2.2, E.mono st x1, s1, h2, fun us H2 m2 x2 s2 r2 => ?_⟩⟩
    generalize p2.1 = l at hf hlen r2
    match l, hf, hlen, r2 with
    | [d1], hf, _, .cons r2 .nil => exact popAt_rep s2 (r1.mono s1 x2) r2 hf fun w H3 m3 x3 s3 r3 => q w H3 m3 ((x1.trans x2).trans x3) s3 r3
/-- {'a': x, 'b': y, 'c': z}: three texts that differ -/
def mDict3 (k1 k2 k3 : Str) (f1 f2 f3 : Ex) : Ex := fun ρ S => (f1 ρ S).bind fun p => (f2 ρ p.2).bind fun q => (f3 ρ q.2).bind fun r => some (.loc r.2.length, r.2 ++ [.dic [(.inr k1, p.1), (.inr k2, q.1), (.inr k3, r.1)]])
theorem de_dict3 {X : Cx} {a b c : Expr} {fa fb fc : Ex} {k1 k2 k3 : Str} {j1 j2 j3 : Nat} {p1 p2 p3 pos : Pos} (hne : k1 ≠ k2) (hne2 : k1 ≠ k3) (hne3 : k2 ≠ k3) (ha : DE X a fa) (hb : DE X b fb) (hc : DE X c fc) :
    DE X (.Dict [some (.Constant (.str k1) j1 p1), some (.Constant (.str k2) j2 p2), some (.Constant (.str k3) j3 p3)] [a, b, c] pos) (mDict3 k1 k2 k3 fa fb fc) :=
  pew (pe_disp (pps_cons pe_str ha (pps_cons pe_str hb (pps_cons pe_str hc pps_nil))) rfl rfl (by intro z; cases z) (show 3 ≤ 15 by decide)) fun σ H Q h => by
    obtain ⟨ρ, S, m, d, S', E, st, hf, q⟩ := h
    obtain ⟨p, h1, hf⟩ := obind hf
    obtain ⟨r, h2, hf⟩ := obind hf
    obtain ⟨t, h3, hf⟩ := obind hf
    cases hf
    intro Dd hD
    refine ⟨ρ, S, m, p.1, p.2, E.mono st (Ext.new1 hD), st.new1 hD, h1, fun v H1 m1 x1 s1 r1 => ⟨ρ, p.2, m1, r.1, r.2, (E.mono st (Ext.new1 hD)).mono (st.new1 hD) x1, s1, h2, fun u H2 m2 x2 s2 r2 =>
      ⟨ρ, r.2, m2, t.1, t.2, ((E.mono st (Ext.new1 hD)).mono (st.new1 hD) x1).mono s1 x2, s2, h3, fun y H3 m3 x3 s3 r3 => ?_⟩⟩⟩
    have hn0 : Dd ∉ m := st.out hD
    have out : ∀ {Ha Hb : Hp} {ma mb : List Addr}, Ha Dd = some (.dK []) → Dd ∉ ma → Ext Ha ma Hb mb → Hb Dd = some (.dK []) ∧ Dd ∉ mb := fun {Ha Hb ma mb} h1 h2 z => ⟨z.keep Dd _ h1 h2, fun hm => by
      rw [z.new Dd hm h2] at h1; cases h1⟩
    obtain ⟨d1, n1⟩ := out (upd_same (H := H)) hn0 x1
    obtain ⟨d2, n2⟩ := out d1 n1 x2
    obtain ⟨d3, n3⟩ := out d2 n2 x3
    refine ⟨d3, [(.inr k1, v), (.inr k2, u), (.inr k3, y)], rfl, (show 3 ≤ 15 by decide), ?_⟩
    have em : mergeK [] [((Sum.inr k1 : Key), v), (Sum.inr k2, u), (Sum.inr k3, y)] = [((Sum.inr k1 : Key), v), (Sum.inr k2, u), (Sum.inr k3, y)] := by
      show putK (putK (putK [] (Sum.inr k1 : Key) v) (Sum.inr k2) u) (Sum.inr k3) y = _
      have e1 : putK [] (Sum.inr k1 : Key) v = [(.inr k1, v)] := rfl
      have e2 : putK [((Sum.inr k1 : Key), v)] (Sum.inr k2) u = [(.inr k1, v), (.inr k2, u)] := by
        unfold putK
        rw [if_neg (by simp [hne])]
        rfl
      rw [e1, e2]
      unfold putK
      rw [if_neg (by simp [hne2, hne3])]
      rfl
    rw [em]
    have x4 : Ext H m (upd H3 Dd (.dK [(.inr k1, v), (.inr k2, u), (.inr k3, y)])) (m3 ++ [Dd]) := by
      have xx := (((Ext.new1 (m := m) (o := HO.dK []) hD).trans x1).trans x2).trans x3
      refine ⟨fun n a e => ?_, fun a o e hna => ?_, fun a ha hna => ?_⟩
      · have z := xx.pre n a e
        rw [List.getElem?_append_left (List.getElem?_eq_some_iff.mp z).1]; exact z
      · rw [upd_ne (ne_of_none e hD)]; exact xx.keep a o e hna
      · rcases List.mem_append.mp ha with z | z
        · exact xx.new a z hna
        · rw [List.mem_singleton.mp z]; exact hD
    have rv := (r1.mono s1 x2).mono s2 x3
    have ru := r2.mono s2 x3
    have cell : CellOk X.K (upd H3 Dd (.dK [(.inr k1, v), (.inr k2, u), (.inr k3, y)])) m3 Dd (.dic [(.inr k1, p.1), (.inr k2, r.1), (.inr k3, t.1)]) :=
      ⟨_, upd_same, .cons ⟨rfl, rv.off d3 (flex_dK _)⟩ (.cons ⟨rfl, ru.off d3 (flex_dK _)⟩ (.cons ⟨rfl, r3.off d3 (flex_dK _)⟩ .nil))⟩
    refine q _ _ _ x4 ((s3.off d3 (flex_dK _) n3).adopt n3 cell) (.loc ?_)
    rw [← s3.len, List.getElem?_concat_length]
section
variable {ρ : Env} {S : Sto} {fa fb fc : Ex} {E : D × Sto → Prop} {n : Nat} {ds : List D}
@[simp] theorem w_dict3 {k1 k2 k3 : Str} : wO (mDict3 k1 k2 k3 fa fb fc ρ S) E ↔ wO (fa ρ S) fun p => wO (fb ρ p.2) fun q => wO (fc ρ q.2) fun r => E (.loc r.2.length, r.2 ++ [.dic [(.inr k1, p.1), (.inr k2, q.1), (.inr k3, r.1)]]) := by unfold mDict3; simp
theorem popAt_loc {i : Int} {k : Nat} {d : D} (h : S[n]? = some (.lst ds)) (hi : ixN ds.length i = some k) (hd : ds[k]? = some d) (hl : ds.length ≤ sizeLine) : popAtD (.loc n) (.int i) S = some (d, S.set n (.lst (ds.eraseIdx k))) := by
  simp only [popAtD, h, hi, hd, Option.bind_some, if_pos hl]
end
end DD

/-! Mirrors run at known data upon any store. -/
namespace DD
open PySem L2
section
variable {ρ : Env} {S T : Sto} {g : Gm} {body : SM} {chk : Sto → Bool} {Q : Out → Prop} {t : Tx} {el : Ex} {d e : D} {ds es acc : List D} {j : Nat} {fr : Bool}
theorem w_for_nil : wO (forL g chk body [] ρ S) Q ↔ chk S = true ∧ Q (.nx ρ S) := by
  unfold forL
  by_cases h : chk S = true <;> simp [h]
theorem w_for_cons : wO (forL g chk body (d :: ds) ρ S) Q ↔ chk S = true ∧ wO (g d ρ) fun ρ1 => wO (body ρ1 S) fun o => match o with
    | .nx ρ2 S2 => wO (forL g chk body ds ρ2 S2) Q
    | .ct ρ2 S2 => wO (forL g chk body ds ρ2 S2) Q
    | .bk ρ2 S2 => Q (.nx ρ2 S2)
    | .rt d S2 => Q (.rt d S2) := by
  conv => lhs; unfold forL
  by_cases h : chk S = true
  · simp only [h, if_true, wO_bind, true_and]
    refine Iff.of_eq (congrArg _ (funext fun ρ1 => congrArg _ (funext fun o => ?_)))
    cases o <;> simp
  · simp [h]
theorem w_comp_nil {E : List D × Sto → Prop} : wO (compL g chk t el ρ [] acc S) E ↔ chk S = true ∧ E (acc, S) := by
  unfold compL
  by_cases h : chk S = true <;> simp [h]
theorem w_comp_cons {E : List D × Sto → Prop} : wO (compL g chk t el ρ (d :: ds) acc S) E ↔ chk S = true ∧ wO (g d ρ) fun ρ1 => wO (t ρ1 S) fun b =>
    (b.1 = true → wO (el ρ1 b.2) fun y => acc.length < sizeLine ∧ wO (compL g chk t el ρ ds (acc ++ [y.1]) y.2) E) ∧ (b.1 = false → wO (compL g chk t el ρ ds acc b.2) E) := by
  conv => lhs; unfold compL
  by_cases h : chk S = true
  · simp only [h, if_true, wO_bind, true_and]
    refine Iff.of_eq (congrArg _ (funext fun ρ1 => congrArg _ (funext fun b => ?_)))
    cases hb : b.1 with
    | false => simp
    | true =>
      simp
      refine Iff.of_eq (congrArg _ (funext fun y => ?_))
      by_cases hl : acc.length < sizeLine <;> simp [hl]
  · simp [h]
theorem gz_at : (S ++ T)[S.length + j]? = T[j]? := by rw [List.getElem?_append_right (by omega), Nat.add_sub_cancel_left]
theorem gz_at0 : (S ++ T)[S.length]? = T[0]? := gz_at (j := 0)
theorem gz_set {c : Cell} : (S ++ T).set (S.length + j) c = S ++ T.set j c := by rw [List.set_append_right _ _ (by omega), Nat.add_sub_cancel_left]
theorem gz_set0 {c : Cell} : (S ++ T).set S.length c = S ++ T.set 0 c := gz_set (j := 0)
end
theorem app_at {S T : Sto} {j : Nat} {e : D} : appD (.loc (S.length + j)) e (S ++ T) = match (T[j]? : Option Cell) with | some (Cell.lst ds) => if ds.length < sizeLine then some (.non, S ++ T.set j (.lst (ds ++ [e]))) else none | _ => none := by
  show (match ((S ++ T)[S.length + j]? : Option Cell) with | some (Cell.lst ds) => if ds.length < sizeLine then some (D.non, (S ++ T).set (S.length + j) (.lst (ds ++ [e]))) else none | _ => none) = _
  rw [gz_at]
  cases T[j]? with
  | none => rfl
  | some c => cases c <;> simp [gz_set]
theorem app_at0 {S T : Sto} {e : D} : appD (.loc S.length) e (S ++ T) = match (T[0]? : Option Cell) with | some (Cell.lst ds) => if ds.length < sizeLine then some (.non, S ++ T.set 0 (.lst (ds ++ [e]))) else none | _ => none := app_at (j := 0)
theorem lst_at {S T : Sto} {j : Nat} : lstOf (S ++ T) (.loc (S.length + j)) = match (T[j]? : Option Cell) with | some (Cell.lst ds) => some ds | _ => none := by
  show (match ((S ++ T)[S.length + j]? : Option Cell) with | some (Cell.lst ds) => some ds | _ => none) = _
  rw [gz_at]
theorem lst_at0 {S T : Sto} : lstOf (S ++ T) (.loc S.length) = match (T[0]? : Option Cell) with | some (Cell.lst ds) => some ds | _ => none := lst_at (j := 0)
theorem tup_at {S T : Sto} {j : Nat} : tupleD (.loc (S.length + j)) (S ++ T) = match (T[j]? : Option Cell) with | some (Cell.lst ds) => some (.tup ds, S ++ T) | _ => none := by
  show ((match ((S ++ T)[S.length + j]? : Option Cell) with | some (Cell.lst ds) => some ds | _ => none).bind fun ds => some (D.tup ds, S ++ T)) = _
  rw [gz_at]
  cases T[j]? with
  | none => rfl
  | some c => cases c <;> rfl
theorem tup_at0 {S T : Sto} : tupleD (.loc S.length) (S ++ T) = match (T[0]? : Option Cell) with | some (Cell.lst ds) => some (.tup ds, S ++ T) | _ => none := tup_at (j := 0)
theorem addL_at {S T : Sto} {j : Nat} {es : List D} {fr : Bool} : addX fr (.loc (S.length + j)) (.rol es) (S ++ T) = match (T[j]? : Option Cell) with | some (Cell.lst ds) => if ds.length + es.length ≤ sizeLine then some (mkL fr (ds ++ es) (S ++ T)) else none | _ => none := by
  show ((match ((S ++ T)[S.length + j]? : Option Cell) with | some (Cell.lst ds) => some ds | _ => none).bind fun xs => (some es).bind fun ys => if xs.length + ys.length ≤ sizeLine then some (mkL fr (xs ++ ys) (S ++ T)) else none) = _
  rw [gz_at]
  cases T[j]? with
  | none => rfl
  | some c => cases c <;> rfl
theorem addL_at0 {S T : Sto} {es : List D} {fr : Bool} : addX fr (.loc S.length) (.rol es) (S ++ T) = match (T[0]? : Option Cell) with | some (Cell.lst ds) => if ds.length + es.length ≤ sizeLine then some (mkL fr (ds ++ es) (S ++ T)) else none | _ => none := addL_at (j := 0)
end DD

/-! Tests that are a value's truth; // by great numbers. -/
namespace DD
open PySem L2
def truO (d : D) (S : Sto) : Option Bool := match d with
  | .bl b => some b
  | .non => some false
  | .int i => some (i != 0)
  | .tup ds => some (!ds.isEmpty)
  | .rol ds => some (!ds.isEmpty)
  | .loc n => match S[n]? with | some (.lst ds) => some (!ds.isEmpty) | _ => none
  | _ => none
def mTr (f : Ex) : Tx := fun ρ S => (f ρ S).bind fun p => (truO p.1 p.2).bind fun b => some (b, p.2)
theorem repL_empty {K : PySem.W.Frag} {H : Hp} {m : List Addr} {ds : List D} {vs : List V} (r : RepL K H m ds vs) : vs.isEmpty = ds.isEmpty := by cases r <;> rfl
theorem tru_rep {K : PySem.W.Frag} {H : Hp} {m : List Addr} {S : Sto} {d : D} {v : V} {b : Bool} (s : StR K H m S) (r : Rep K H m d v) (h : truO d S = some b) : TruV K v H b := by
  have seqs : ∀ {ds : List D}, seqOf S d = some ds → b = !ds.isEmpty → TruV K v H b := fun {ds} h1 e => by
    obtain ⟨a, vs, rfl, hs, rs⟩ := seqOf_rep s r h1
    have := repL_empty rs
    rw [← this] at e
    rcases hs with hs | hs
    · exact .inl ⟨vs, hs, e⟩
    · exact .inr (.inl ⟨vs, hs, e⟩)
  cases d with
  | non => cases h; cases r; rfl
  | bl b' => cases h; cases r; rfl
  | int i => cases h; cases r; rfl
  | tup ds => exact seqs rfl (Option.some.inj h).symm
  | rol ds => exact seqs rfl (Option.some.inj h).symm
  | loc n =>
    simp only [truO] at h
    cases hn : S[n]? with
    | none => rw [hn] at h; cases h
    | some c =>
      rw [hn] at h
      cases c with
      | lst ds => exact seqs (by simp only [seqOf, hn]) (Option.some.inj h).symm
      | dic _ => cases h
  | _ => cases h
section
variable {X : Cx} {e a b : Expr} {fa fb : Ex} {pos : Pos}
theorem dt_tr (ha : DE X e fa) (he : ∀ whole, isTrue e X.env whole = (do let v ← whole; standAt e.pos; holding [v] (truthy v)) := by intro _; rfl) : DT X e (mTr fa) := ptw (pt_truth ha he) fun σ H Q h => by
  obtain ⟨ρ, S, m, b, S', E, st, hf, q⟩ := h
  obtain ⟨p, h1, hf⟩ := obind hf
  obtain ⟨b', h2, hf⟩ := obind hf
  cases hf
  exact ⟨ρ, S, m, p.1, p.2, E, st, h1, fun v H1 m1 x1 s1 r1 => ⟨b, tru_rep s1 r1 h2, q H1 m1 x1 s1⟩⟩
@[simp] theorem w_tr {ρ : Env} {S : Sto} {R : Bool × Sto → Prop} : wO (mTr fa ρ S) R ↔ wO (fa ρ S) fun p => wO (truO p.1 p.2) fun b => R (b, p.2) := by unfold mTr; simp
abbrev fdivW : Op2 := intD (fun _ j => 0 < j ∧ j.natAbs.log2 < 9000) fun i j => .int (i / j)
theorem de_fdivW (ha : DE X a fa) (hb : DE X b fb) : DE X (.BinOp a .FloorDiv b pos) (m2 fdivW fa fb) := de_op op_fdivW (od_int (fun _ _ h => h) fun _ _ _ _ => .int _) ha hb
end
end DD

/-! The bag of the laws from k44 on: a dict of great digits, a seed and a turn. -/
namespace DD
open PySem L2
def B_bag (c0 : Int) : Fn := mkFn 1 4 (mSeq (mAsg (mDict3 "great" "seed" "turn" (mLstX false mNil) (m2 (addX false) (mC (.int c0)) (m1 lenD (mCons (mSlX true (mV 0) mNoP (mP (mC (.int 63)))) mNil))) (mC (.int 0))) (gN 1))
  (mSeq (mFor (mI (mSlX true (mV 0) mNoP (mP (mC (.int 63))))) (gN 2) (mSeq (mIte (mB (m2 geD (m1 absD (mCons (mV 2) mNil)) (m2 powD (mC (.int 10)) (mC (.int 16))))) (mPut (m2 (addX false) (mLstX true (mCons (m1 absD (mCons (mV 2) mNil)) mNil)) (m2 ixD (mV 1) (mC (.str "great")))) (mV 1) (mC (.str "great"))) mSkip)
  (mSeq (mAsg (m2 (addX true) (m2 mulD (mC (.int 2)) (m1 absD (mCons (mV 2) mNil))) (m1 toIntD (mCons (m2 ltD (mV 2) (mC (.int 0))) mNil))) (gN 3))
  (mPut (m2 modD (m1 toIntD (mCons (m2 (addX true) (m2 mulD (m2 (addX true) (m2 (addX true) (m2 ixD (mV 1) (mC (.str "seed"))) (mV 3)) (mC (.int 1))) (mC (.int 6364136223846793005))) (mC (.int 1442695040888963407))) mNil)) (mC (.int 9223372036854775783))) (mV 1) (mC (.str "seed"))))))
  (mRet (mV 1))))
def B_take : Fn := mkFn 2 4 (mSeq (mIte (mB (m2 ltD (mV 1) (mC (.int 2)))) (mRet (mC (.int 0))) mSkip)
  (mSeq (mIte (mB (m2 neD (m2 ixD (mV 0) (mC (.str "great"))) (mLstX true mNil))) (mSeq (mAsg (mMeth0 popD (m2 ixD (mV 0) (mC (.str "great")))) (gN 2))
  (mSeq (mIte (mB (m2 geD (mV 2) (mV 1))) (mDo (mMeth1 appD (m2 ixD (mV 0) (mC (.str "great"))) (mCons (m2 fdivD (mV 2) (mV 1)) mNil))) mSkip)
  (mRet (m2 modD (m1 toIntD (mCons (mV 2) mNil)) (mV 1))))) mSkip)
  (mSeq (mPut (m2 (addX false) (m2 ixD (mV 0) (mC (.str "turn"))) (mC (.int 1))) (mV 0) (mC (.str "turn")))
  (mSeq (mAsg (m2 modD (m1 toIntD (mCons (m2 (addX true) (m2 mulD (m2 ixD (mV 0) (mC (.str "seed"))) (mC (.int 3935559000370003845))) (m2 mulD (mC (.int 2691343689449507681)) (m2 ixD (mV 0) (mC (.str "turn"))))) mNil)) (mC (.int 9223372036854775783))) (gN 3))
  (mSeq (mPut (mV 3) (mV 0) (mC (.str "seed")))
  (mRet (m2 modD (m1 toIntD (mCons (m2 fdivW (mV 3) (mC (.int 1073741824))) mNil)) (mV 1))))))))
abbrev bagL (l : Nat) (s t : Int) : List (Key × D) := [(.inr "great", .loc l), (.inr "seed", .int s), (.inr "turn", .int t)]
theorem ne_gs : ¬ ((("great" : Str)) = ("seed" : Str)) := by decide +kernel
theorem ne_sg : ¬ ((("seed" : Str)) = ("great" : Str)) := by decide +kernel
theorem ne_gt : ¬ ((("great" : Str)) = ("turn" : Str)) := by decide +kernel
theorem ne_tg : ¬ ((("turn" : Str)) = ("great" : Str)) := by decide +kernel
theorem ne_st : ¬ ((("seed" : Str)) = ("turn" : Str)) := by decide +kernel
theorem ne_ts : ¬ ((("turn" : Str)) = ("seed" : Str)) := by decide +kernel
section
variable (x y z u : D)
theorem get_great : getK [(.inr "great", x), (.inr "seed", y), (.inr "turn", z)] (.inr "great") = some x := by
  unfold getK
  rw [List.find?_cons_of_pos (by simp)]
  rfl
theorem get_seed : getK [(.inr "great", x), (.inr "seed", y), (.inr "turn", z)] (.inr "seed") = some y := by
  unfold getK
  rw [List.find?_cons_of_neg (by simp [ne_gs]), List.find?_cons_of_pos (by simp)]
  rfl
theorem get_turn : getK [(.inr "great", x), (.inr "seed", y), (.inr "turn", z)] (.inr "turn") = some z := by
  unfold getK
  rw [List.find?_cons_of_neg (by simp [ne_gt]), List.find?_cons_of_neg (by simp [ne_st]), List.find?_cons_of_pos (by simp)]
  rfl
theorem put_great : putD [(.inr "great", x), (.inr "seed", y), (.inr "turn", z)] (.inr "great") u = [(.inr "great", u), (.inr "seed", y), (.inr "turn", z)] := by
  unfold putD
  rw [if_pos (by simp)]
  simp [ne_sg, ne_tg]
theorem put_seed : putD [(.inr "great", x), (.inr "seed", y), (.inr "turn", z)] (.inr "seed") u = [(.inr "great", x), (.inr "seed", u), (.inr "turn", z)] := by
  unfold putD
  rw [if_pos (by simp)]
  simp [ne_gs, ne_ts]
theorem put_turn : putD [(.inr "great", x), (.inr "seed", y), (.inr "turn", z)] (.inr "turn") u = [(.inr "great", x), (.inr "seed", y), (.inr "turn", u)] := by
  unfold putD
  rw [if_pos (by simp)]
  simp [ne_gt, ne_st]
end
structure Bag (S : Sto) (dk l : Nat) : Prop where
  at_ : ∃ s t, S[dk]? = some (.dic (bagL l s t)) ∧ 0 ≤ s ∧ s < 9223372036854775783
  deep : ∃ ws : List Int, S[l]? = some (.lst (ws.map D.int)) ∧ (∀ w ∈ ws, 0 ≤ w) ∧ ws.length ≤ 1000
  ne : dk ≠ l
def dealB (dk l : Nat) : Deal where
  dk := dk
  own := ownA dk l
  ok := fun S => Bag S dk l
  lt := fun {S i} h q => by
    obtain ⟨s, t, h1, _⟩ := h.at_
    obtain ⟨ws, h2, _⟩ := h.deep
    unfold ownA at q
    rcases of_decide_eq_true q with rfl | rfl
    · exact get_lt h1
    · exact get_lt h2
  app := fun {S T} h => by
    obtain ⟨s, t, h1, h2, h3⟩ := h.at_
    obtain ⟨ws, h4, h5, h6⟩ := h.deep
    exact ⟨⟨s, t, by rw [List.getElem?_append_left (get_lt h1)]; exact h1, h2, h3⟩, ⟨ws, by rw [List.getElem?_append_left (get_lt h4)]; exact h4, h5, h6⟩, h.ne⟩
  cut := fun {S T} hl h => by
    obtain ⟨s, t, h1, h2, h3⟩ := h.at_
    obtain ⟨ws, h4, h5, h6⟩ := h.deep
    rw [List.getElem?_append_left (hl dk (by simp [ownA]))] at h1
    rw [List.getElem?_append_left (hl l (by simp [ownA]))] at h4
    exact ⟨⟨s, t, h1, h2, h3⟩, ⟨ws, h4, h5, h6⟩, h.ne⟩
  sc := fun {S i c} h q e => by
    obtain ⟨s, t, h1, _⟩ := h.at_
    obtain ⟨ws, h2, _⟩ := h.deep
    unfold ownA at q
    rcases of_decide_eq_true q with rfl | rfl
    · rw [h1] at e; cases e
      have := get_lt h2
      simp [scC, this]
    · rw [h2] at e; cases e
      exact ints_sc ws
section
variable {S : Sto} {dk l : Nat} {s t : Int}
theorem bag_great (h : S[dk]? = some (.dic (bagL l s t))) : ixD (.loc dk) (.str "great") S = some (.loc l, S) := ix_dic h rfl (get_great _ _ _)
theorem bag_seed (h : S[dk]? = some (.dic (bagL l s t))) : ixD (.loc dk) (.str "seed") S = some (.int s, S) := ix_dic h rfl (get_seed _ _ _)
theorem bag_turn (h : S[dk]? = some (.dic (bagL l s t))) : ixD (.loc dk) (.str "turn") S = some (.int t, S) := ix_dic h rfl (get_turn _ _ _)
theorem Bag.state (h : Bag S dk l) (h0 : 0 ≤ s) (h1 : s < 9223372036854775783) : Bag (S.set dk (.dic (bagL l s t))) dk l := by
  obtain ⟨s', t', hs, _⟩ := h.at_
  obtain ⟨ws, hl, hw⟩ := h.deep
  exact ⟨⟨s, t, set_eq hs, h0, h1⟩, ⟨ws, (set_ne h.ne).trans hl, hw⟩, h.ne⟩
theorem Bag.digits (h : Bag S dk l) {ws : List Int} (h0 : ∀ w ∈ ws, 0 ≤ w) (h1 : ws.length ≤ 1000) : Bag (S.set l (.lst (ws.map D.int))) dk l := by
  obtain ⟨s', t', hs, hb⟩ := h.at_
  obtain ⟨ws', hl, hw⟩ := h.deep
  exact ⟨⟨s', t', (set_ne (Ne.symm h.ne)).trans hs, hb⟩, ⟨ws, set_eq hl, h0, h1⟩, h.ne⟩
end
theorem takeB {dk l : Nat} {many : Int} (hm : many < 1000) : Dsp (dealB dk l) (gcZ B_take) [.loc dk, .int many] (IsDraw many) := by
  refine Dsp.of fun S (h : Bag S dk l) => ?_
  obtain ⟨s, t, hs, hs0, hs1⟩ := h.at_
  obtain ⟨ws, hl, hw, hwl⟩ := h.deep
  have ne := h.ne
  have en : neD (.loc l) (.rol []) S = some (.bl (!ws.isEmpty), S) := by
    unfold neD
    rw [eqB_nil hl]
    rfl
  have fin : ∀ {r : Int} {S' : Sto}, Bag S' dk l → FQ (ownA dk l) S S' → 0 ≤ r → (1 ≤ many → r < many) → Ret (dealB dk l) S (IsDraw many) (.int r, S') := fun {r S'} h1 f a b => Ret.val0 (G := dealB dk l) h1 f ⟨r, rfl, a, b⟩ (fun n => by simp)
  refine w_fn rfl ?_
  by_cases h2 : many < 2
  · simp [h2]
    exact fin h FQ.refl (by omega) (by omega)
  have hmp : 0 < many := by omega
  have hmn : ¬ many = 0 := by omega
  have hma : many.natAbs < 1073741824 := by omega
  have sz2 : 3 < sizeLine := by decide
  cases ws with
  | nil =>
    simp only [List.isEmpty_nil, Bool.not_true] at en
    have k2 : (S.set dk (.dic (bagL l s (t + 1))))[dk]? = some (.dic (bagL l s (t + 1))) := set_eq hs
    simp [h2, bag_great hs, en, bag_turn hs, hs, put_turn, sz2, hmn]
    generalize hT : List.set S dk (Cell.dic (bagL l s (t + 1))) = T at k2 ⊢
    simp [bag_seed k2, bag_turn k2, k2, put_seed, sz2, hmn]
    have b1 := fmod_bounds (a := s * 3935559000370003845 + 2691343689449507681 * (t + 1)) (b := 9223372036854775783) (by decide)
    generalize (s * 3935559000370003845 + 2691343689449507681 * (t + 1)).fmod 9223372036854775783 = u at b1 ⊢
    have b2 := fun a => fmod_bounds (a := a) hmp
    have b3 : Nat.log2 1073741824 < 9000 := by decide +kernel
    refine ⟨fun _ => ?_, b3⟩
    subst hT
    rw [List.set_set]
    exact fin (h.state b1.1 b1.2) (fqK _) (b2 _).1 fun _ => (b2 _).2
  | cons w0 wr =>
    simp only [List.isEmpty_cons, Bool.not_false] at en
    obtain ⟨A, z, eA⟩ : ∃ A z, w0 :: wr = A ++ [z] := ⟨(w0 :: wr).dropLast, (w0 :: wr).getLast (by simp), (List.dropLast_concat_getLast (by simp)).symm⟩
    rw [eA] at hw hwl hl
    have hz : 0 ≤ z := hw z (by simp)
    have hA : ∀ w ∈ A, 0 ≤ w := fun w hw' => hw w (by simp [hw'])
    have hAl : A.length + 1 ≤ 1000 := by simpa using hwl
    have q4 : ((A ++ [z]).map D.int)[((A ++ [z]).map D.int).length - 1]? = some (.int z) := by simp
    have q5 : ((A ++ [z]).map D.int).dropLast = A.map D.int := by simp
    have p1 := pop_loc hl q4
    rw [q5] at p1
    have d1 : Bag (S.set l (.lst (A.map D.int))) dk l := h.digits hA (by omega)
    have f1 : FQ (ownA dk l) S (S.set l (.lst (A.map D.int))) := fqL _
    have b2 := fun a => fmod_bounds (a := a) hmp
    obtain ⟨s1, t1, k1, _⟩ := d1.at_
    have k2 : (S.set l (.lst (A.map D.int)))[l]? = some (.lst (A.map D.int)) := set_eq hl
    simp [h2, bag_great hs, en, lst_loc hl, p1, hmn, bag_great k1, lst_loc k2, hma]
    by_cases hb : z < many
    · exact .inl ⟨hb, fin d1 f1 (b2 _).1 fun _ => (b2 _).2⟩
    · refine .inr ⟨by omega, ?_⟩
      have a1 := app_loc (d := .int (z.fdiv many)) k2 (by rw [List.length_map]; exact size_1000 (by omega))
      have hq : 0 ≤ z.fdiv many := by rw [Int.fdiv_eq_ediv_of_nonneg z (Int.le_of_lt hmp)]; exact Int.ediv_nonneg hz (by omega)
      have d2 : Bag ((S.set l (.lst (A.map D.int))).set l (.lst ((A ++ [z.fdiv many]).map D.int))) dk l :=
        d1.digits (fun w hw' => by rcases List.mem_append.mp hw' with q | q; exact hA w q; rw [List.mem_singleton.mp q]; exact hq) (by simp; omega)
      have f2 : FQ (ownA dk l) S ((S.set l (.lst (A.map D.int))).set l (.lst ((A ++ [z.fdiv many]).map D.int))) := f1.trans (fqL _)
      rw [List.map_append] at d2 f2
      simp at d2 f2
      simp [a1, hmn]
      exact fin d2 f2 (b2 _).1 fun _ => (b2 _).2
/-! ### the bag made -/
def BagAt (S : Sto) (n : Nat) : Prop := ∃ (l : Nat) (s t : Int) (ws : List Int), S[1]? = some (.dic (bagL l s t)) ∧ 0 ≤ s ∧ s < 9223372036854775783 ∧ S[l]? = some (.lst (ws.map D.int)) ∧ (∀ w ∈ ws, 0 ≤ w) ∧ ws.length + n ≤ 1000 ∧ l ≠ 1
theorem bagB {c0 : Int} (h0 : 0 ≤ c0) (h1 : c0 < 1000000000) (ns : List Int) (hn : ns.length ≤ 63) : wO (B_bag c0 [.rol (ns.map D.int)] []) fun p => ∃ dk l, p.1 = .loc dk ∧ Bag p.2 dk l := by
  refine w_fn rfl ?_
  generalize hcut : cutD (ns.map D.int) none (some 63) = cut
  have ck : ∀ d ∈ cut, ∃ i, d = .int i := fun d hd => by
    rw [← hcut] at hd
    have := List.mem_of_mem_drop (List.mem_of_mem_take hd)
    obtain ⟨i, _, e⟩ := List.mem_map.mp this
    exact ⟨i, e.symm⟩
  have cl : cut.length ≤ 63 := by
    rw [← hcut]
    unfold cutD
    rw [List.length_take, List.length_drop, List.length_map]
    omega
  simp [hcut]
  refine for_w (fun ds ρ S => BagAt S ds.length ∧ (∀ d ∈ ds, ∃ i, d = .int i) ∧ (∃ r x y, ρ = [r, some (.loc 1), x, y]))
    (fun _ _ => False) (fun _ _ => False) (fun _ _ _ _ => rfl) ?_ ?_ (fun _ _ h => h.elim) (fun _ _ h => h.elim) _ _ _ ?_
  · rintro d ds ρ S ⟨⟨l, s, t, ws, hs, hs0, hs1, hl, hw, hwl, ne⟩, hi, ⟨r, x, y, rfl⟩⟩
    obtain ⟨i, rfl⟩ := hi d (by simp)
    have hi' : ∀ d ∈ ds, ∃ i, d = .int i := fun d hd => hi d (by simp [hd])
    have nat : 3 < sizeLine := by decide
    have sz : sizeLine = 16777216 := by decide
    rw [List.length_cons] at hwl
    generalize hv : (if i < 0 then -i else i) = v
    have hv0 : 0 ≤ v := by subst hv; split <;> omega
    have fin : ∀ (S' : Sto) (l' : Nat) (ws' : List Int), S'[1]? = some (.dic (bagL l' s t)) → S'[l']? = some (.lst (ws'.map D.int)) → (∀ w ∈ ws', (0 : Int) ≤ w) → ws'.length + ds.length ≤ 1000 → l' ≠ 1 → ∀ m : Int,
        BagAt (S'.set 1 (.dic (bagL l' (m.fmod 9223372036854775783) t))) ds.length := by
      intro S' l' ws' k2 kl hw' hl' ne' m
      have b := fmod_bounds (a := m) (b := 9223372036854775783) (by decide)
      exact ⟨l', _, t, ws', set_eq k2, b.1, b.2, (set_ne (Ne.symm ne')).trans kl, hw', hl', ne'⟩
    simp [hv]
    by_cases hb : v < 10000000000000000
    · refine .inl ⟨hb, ?_⟩
      have f := fin S l ws hs hl hw (by omega) ne
      simp [bag_seed hs, hs, put_seed, nat, f]
      exact hi'
    · refine .inr ⟨by omega, ?_⟩
      have l2 : 1 < S.length := get_lt hs
      have ll : l < S.length := get_lt hl
      have q2 : ∀ T, (S ++ T)[1]? = some (.dic (bagL l s t)) := fun T => by rw [List.getElem?_append_left l2]; exact hs
      have ad := addX_Rloc (fr := false) (es := [.int v]) hl
      rw [if_pos (by simp; omega)] at ad
      have k2 : ((S ++ [Cell.lst (.int v :: ws.map D.int)]).set 1 (.dic (bagL S.length s t)))[1]? = some (.dic (bagL S.length s t)) := set_eq (q2 _)
      have f := fin ((S ++ [Cell.lst (.int v :: ws.map D.int)]).set 1 (.dic (bagL S.length s t))) S.length (v :: ws) k2 ((set_ne (by omega)).trans (by simp)) (fun w hw' => by rcases List.mem_cons.mp hw' with q | q; exact q ▸ hv0; exact hw w q) (by simp; omega) (by omega)
      simp [bag_great hs, ad, q2, put_great, nat]
      simp [bag_seed k2, k2, put_seed, nat]
      simp at f
      exact ⟨f _, hi'⟩
  · rintro ρ S ⟨⟨l, s, t, ws, hs, hs0, hs1, hl, hw, hwl, ne⟩, hi, ⟨r, x, y, rfl⟩⟩
    simp
    exact ⟨l, ⟨s, t, hs, hs0, hs1⟩, ⟨ws, hl, hw, by simpa using hwl⟩, Ne.symm ne⟩
  · refine ⟨⟨0, _, 0, [], rfl, ?_, ?_, rfl, by simp, by simp; omega, by decide⟩, ck, ⟨_, _, _, rfl⟩⟩
    · omega
    · omega
end DD

/-! A list mixed by draws. -/
namespace DD
open PySem L2
theorem ne_locnil {S : Sto} {l : Nat} {ds : List D} (h : S[l]? = some (.lst ds)) (h1 : fitL ds = true) (h2 : noL ds = true) (h3 : dpL ds ≤ 50) : neD (.loc l) (.rol []) S = some (.bl (!ds.isEmpty), S) := by
  obtain ⟨a1, a2⟩ := py_layL (S := S) ds 63 h1 h2 (by omega)
  have e1 : toPy 64 S (.loc l) = some (.list (pyL ds)) := by
    simp only [toPy, h, a1, Option.bind_some]
  have e2 : toPy 64 S (.rol []) = some (.list []) := rfl
  have sh : SeqAt.shaped (.list (pyL ds)) = true := by
    have : Lay (.rol ds) := ⟨by simpa using h1, by simpa using h2, by simp; omega⟩
    have := this.shaped
    simpa [pyD] using this
  have e : eqB S (.loc l) (.rol []) = some ds.isEmpty := by
    show (toPy 64 S (.loc l)).bind (fun p => (toPy 64 S (.rol [])).bind fun q => if SeqAt.shaped p = true ∧ SeqAt.shaped q = true then some (PyData.eqv p q) else none) = _
    rw [e1, e2, Option.bind_some, Option.bind_some, if_pos ⟨sh, shaped_ints []⟩]
    cases ds <;> simp [PyData.eqv, PyData.eqvAll, pyL]
  unfold neD
  rw [e]
  rfl
def B_mixed (take : Fn) : Fn := mkFn 2 4 (mSeq (mPar 2 3 (mCons (m1 (listX false) (mCons (mV 1) mNil)) (mCons (mLstX false mNil) mNil)))
  (mSeq (mWhile (mB (m2 neD (mV 2) (mLstX true mNil))) (mDo (mMeth1 appD (mV 3) (mCons (mMeth1 popAtD (mV 2) (mCons (mCall take (mCons (mV 0) (mCons (m1 lenD (mCons (mV 2) mNil)) mNil))) mNil)) mNil))))
  (mRet (mV 3))))
theorem fitL_sub {xs ys : List D} (h : fitL xs = true) (hs : ∀ d ∈ ys, d ∈ xs) : fitL ys = true := fitL_all.mpr fun d hd => fitL_all.mp h d (hs d hd)
theorem noL_sub {xs ys : List D} (h : noL xs = true) (hs : ∀ d ∈ ys, d ∈ xs) : noL ys = true := noL_all.mpr fun d hd => noL_all.mp h d (hs d hd)
theorem dpL_sub {xs ys : List D} {k : Nat} (h : dpL xs ≤ k) (hs : ∀ d ∈ ys, d ∈ xs) : dpL ys ≤ k := dpL_most fun d hd => by have := dpL_mem (hs d hd); omega
theorem mem_eraseIdx' {xs : List D} {k : Nat} {d : D} (h : d ∈ xs.eraseIdx k) : d ∈ xs := List.mem_of_mem_eraseIdx h
/-- what comes out are the items of what went in -/
def IsMix (xs : List D) (d : D) : Prop := ∃ es, d = .rol es ∧ es.length = xs.length ∧ ∀ e ∈ es, e ∈ xs
theorem perm_erase : ∀ {l : List D} {k : Nat} (h : k < l.length), (l[k] :: l.eraseIdx k).Perm l
  | x :: l, 0, _ => List.Perm.refl _
  | x :: l, k + 1, h => by
    show ((l[k]'(by simpa using h)) :: x :: l.eraseIdx k).Perm (x :: l)
    exact (List.Perm.swap _ _ _).trans ((perm_erase (by simpa using h)).cons x)
def IsMixP (xs : List D) (d : D) : Prop := ∃ es, d = .rol es ∧ es.Perm xs
theorem mixP {G : Deal} {take : Fn} (hd : Draws G take) {q : D} {xs : List D} (hq : q = .rol xs ∨ q = .tup xs) (hl : xs.length < 1000) (hf : fitL xs = true) (hno : noL xs = true) (hdp : dpL xs ≤ 50) : Dsp G (gcZ (B_mixed take)) [.loc G.dk, q] (IsMixP xs) := by
  have nat : sizeLine = 16777216 := by decide
  refine Dsp.of fun S hS => ?_
  refine w_fn rfl ?_
  have lq : listX false q S = some (.loc S.length, S ++ [.lst xs]) := by rcases hq with rfl | rfl <;> rfl
  simp [lq]
  refine mWhile_w (fun n ρ S2 => ∃ S1 left found, S2 = S1 ++ [.lst left, .lst found] ∧ ρ = [some (.loc G.dk), some q, some (.loc S.length), some (.loc (S.length + 1))] ∧ G.ok S1 ∧ FQ G.own S S1 ∧ left.length = n ∧ (left ++ found).Perm xs) (fun _ _ => False) (fun _ _ => False) ?_ (fun _ _ h => h.elim) (fun _ _ h => h.elim) (n := xs.length) (by omega) ⟨S, xs, [], rfl, rfl, hS, FQ.refl, rfl, by rw [List.append_nil]⟩
  rintro n ρ S2 ⟨S1, left, found, rfl, rfl, h1, f1, hn, hp⟩
  have hlen : left.length + found.length = xs.length := by rw [← List.length_append]; exact hp.length_eq
  have hleft : ∀ d ∈ left, d ∈ xs := fun d hd => hp.mem_iff.mp (List.mem_append_left _ hd)
  have hfound : ∀ d ∈ found, d ∈ xs := fun d hd => hp.mem_iff.mp (List.mem_append_right _ hd)
  have e2 : (S1 ++ [Cell.lst left, .lst found])[S.length]? = some (.lst left) := by rw [← f1.len]; simp
  have en := ne_locnil e2 (fitL_sub hf hleft) (noL_sub hno hleft) (dpL_sub hdp hleft)
  simp [en]
  by_cases he : left = []
  case neg =>
    refine .inr ⟨he, ?_⟩
    have hpos : 0 < left.length := by cases left with | nil => exact absurd rfl he | cons _ _ => simp
    have e3 : (S1 ++ [Cell.lst left, .lst found])[S.length + 1]? = some (.lst found) := by rw [← f1.len]; simp
    have ll : lenD (.loc S.length) (S1 ++ [Cell.lst left, .lst found]) = some (.int left.length, S1 ++ [Cell.lst left, .lst found]) := by simp only [lenD, e2]
    simp [lst_loc e3, lst_loc e2, ll]
    refine (hd _ (by omega)).at h1 ?_
    rintro d S3 ⟨r, rfl, r0, r1⟩ h3 f3
    have r2 := r1 (by omega)
    have f13 := f1.trans f3
    have e4 : (S3 ++ [Cell.lst left, .lst found])[S.length]? = some (.lst left) := by rw [← f13.len]; simp
    have hi : ixN left.length r = some r.toNat := by unfold ixN; rw [if_pos r0, if_pos r2]
    have hk : r.toNat < left.length := by omega
    have hx : left[r.toNat]? = some left[r.toNat] := List.getElem?_eq_getElem hk
    have p := popAt_loc e4 hi hx (by omega)
    have es : (S3 ++ [Cell.lst left, .lst found]).set S.length (.lst (left.eraseIdx r.toNat)) = S3 ++ [Cell.lst (left.eraseIdx r.toNat), .lst found] := by
      rw [← f13.len]; simp
    rw [es] at p
    have e5 : (S3 ++ [Cell.lst (left.eraseIdx r.toNat), .lst found])[S.length + 1]? = some (.lst found) := by rw [← f13.len]; simp
    have a := app_loc (d := left[r.toNat]) e5 (by omega)
    have es2 : (S3 ++ [Cell.lst (left.eraseIdx r.toNat), .lst found]).set (S.length + 1) (.lst (found ++ [left[r.toNat]])) = S3 ++ [Cell.lst (left.eraseIdx r.toNat), .lst (found ++ [left[r.toNat]])] := by
      rw [← f13.len]; simp
    rw [es2] at a
    have le : (left.eraseIdx r.toNat).length + 1 = left.length := by rw [List.length_eraseIdx_of_lt hk]; omega
    simp [p, a]
    refine ⟨_, by omega, S3, _, _, rfl, h3, f13, rfl, List.Perm.trans ?_ hp⟩
    have pe := perm_erase hk
    refine List.Perm.trans ?_ (pe.append_right found)
    rw [← List.append_assoc]
    exact List.perm_append_singleton _ _
  case pos =>
    refine .inl ⟨he, ?_⟩
    subst he
    refine Ret.lst (j := 1) h1 f1 rfl ⟨found, rfl, by simpa using hp⟩ fun n => ?_
    exact fitL_sc _ (fitL_sub hf hfound)
theorem mixG {G : Deal} {take : Fn} (hd : Draws G take) {q : D} {xs : List D} (hq : q = .rol xs ∨ q = .tup xs) (hl : xs.length < 1000) (hf : fitL xs = true) (hno : noL xs = true) (hdp : dpL xs ≤ 50) : Dsp G (gcZ (B_mixed take)) [.loc G.dk, q] (IsMix xs) :=
  (mixP hd hq hl hf hno hdp).imp fun d ⟨es, e, p⟩ => ⟨es, e, p.length_eq, fun x hx => p.mem_iff.mp hx⟩
end DD

/-! Drawn agreements: at most four words. -/
namespace DD
open PySem L2
def AgOkW (W : List Str) (n : Nat) (a : Ag) : Prop := 2 ≤ n ∧ n ≤ 4 ∧ a.length = n ∧ ∀ h b, a[h]? = some b → BkOk n h W b ∧ b.rs.length ≤ 5
theorem AgOkW.ok {W : List Str} {n : Nat} {a : Ag} (h : AgOkW W n a) (hw : ∀ w ∈ W, w ∈ WA) : AgOk n a := ⟨h.1, h.2.1, h.2.2.1, fun i b q => ⟨(h.2.2.2 i b q).1.up hw, (h.2.2.2 i b q).2⟩⟩
namespace FW
variable {W : List Str} {G : Deal} {draw : Fn}
theorem pw_ok {n : Nat} {w : Str} (hw : w ∈ W) (hn : 2 ≤ n) : PairsOk n 0 W (pw n w) := by
  refine ⟨?_, fun p hp => ?_⟩
  · unfold pw
    show List.Pairwise _ _
    rw [List.pairwise_map]
    exact (List.nodup_range' (s := 1) (n := n - 1)).imp fun h q => h (Prod.mk.inj q).1
  · obtain ⟨i, hi, rfl⟩ := List.mem_map.mp hp
    rw [List.mem_range'] at hi
    obtain ⟨j, a, b⟩ := hi
    exact ⟨by simp only; omega, by simp only; omega, hw⟩

theorem prs0 {n house : Nat} : PairsOk n house W [] := ⟨List.nodup_nil, by simp⟩
theorem prs1 {n house i : Nat} {w : Str} (h : i < n) (h' : i ≠ house) (hw : w ∈ W) : PairsOk n house W [(i, w)] := ⟨by simp, fun p hp => by simp at hp; subst hp; exact ⟨h, h', hw⟩⟩

theorem hubB_ok (inW : ("ask" : Str) ∈ W ∧ ("ok" : Str) ∈ W ∧ ("no" : Str) ∈ W) {n : Nat} {last : Str} {b1 b2 : Bool} (hn : 2 ≤ n) (hn' : n ≤ 4) (hw : last ∈ W) : BkOk n 0 W (hubB n last b1 b2) ∧ (hubB n last b1 b2).rs.length ≤ 5 := by
  obtain ⟨a1, a2, a3⟩ := inW
  have ll : (hubB n last b1 b2).rs.length ≤ 5 := by simp only [hubB, List.length_cons, List.length_map, pw_len]; omega
  obtain ⟨f1, f2, f3, f4⟩ := four_ok
  have four4 : four.length = 4 := rfl
  refine ⟨⟨f1, f2, f3, f4, by omega, fun r hr => ?_⟩, ll⟩
  simp only [hubB, List.mem_cons, List.mem_map] at hr
  rcases hr with rfl | rfl | ⟨p, hp, rfl⟩
  · exact ⟨by simp only; omega, by show 1 < four.length; omega, lead01, prs0, by simp, List.Pairwise.nil, pw_ok a1 hn, by simp only [pw_len]; omega⟩
  · exact ⟨by simp only; omega, by show 2 < four.length; omega, lead12, pw_ok a2 hn, by simp only [pw_len]; omega, pw_up, pw_ok hw hn, by simp only [pw_len]; omega⟩
  · have := (pw_ok a3 hn).2 p hp
    exact ⟨by simp only; omega, by show 3 < four.length; omega, lead13, prs1 this.1 this.2.1 this.2.2, by simp, by simp, prs0, by simp⟩
theorem leafB_ok (inW : ("ask" : Str) ∈ W ∧ ("ok" : Str) ∈ W ∧ ("no" : Str) ∈ W) {n h : Nat} {last : Str} {b1 b2 b3 : Bool} (hn : 2 ≤ n) (h1 : 1 ≤ h) (hw : last ∈ W) : BkOk n h W (leafB last b1 b2 b3) ∧ (leafB last b1 b2 b3).rs.length ≤ 5 := by
  obtain ⟨a1, a2, a3⟩ := inW
  obtain ⟨f1, f2, f3, f4⟩ := four_ok
  have four4 : four.length = 4 := rfl
  refine ⟨⟨f1, f2, f3, f4, by simp [leafB], fun r hr => ?_⟩, by simp [leafB]⟩
  simp only [leafB, List.mem_cons, List.not_mem_nil, or_false] at hr
  rcases hr with rfl | rfl | rfl
  · exact ⟨by simp only; omega, by show 1 < four.length; omega, lead01, prs1 (by omega) (by omega) a1, by simp, by simp, prs1 (by omega) (by omega) a2, by simp⟩
  · exact ⟨by simp only; omega, by show 3 < four.length; omega, lead03, prs1 (by omega) (by omega) a1, by simp, by simp, prs1 (by omega) (by omega) a3, by simp⟩
  · exact ⟨by simp only; omega, by show 2 < four.length; omega, lead12, prs1 (by omega) (by omega) hw, by simp, by simp, prs0, by simp⟩

theorem askingA (inW : ("ask" : Str) ∈ W ∧ ("ok" : Str) ∈ W ∧ ("no" : Str) ∈ W) (hd : Draws G draw) {n : Nat} {last : Str} (hn : 2 ≤ n) (hn' : n ≤ 4) (hw : last ∈ W) : Dsp G (gcZ (A_asking draw)) [.loc G.dk, .int n, .str last] (fun d => ∃ a, d = agD a ∧ AgOkW W n a) := by
  refine Dsp.of fun S h => ?_
  have nat : sizeLine = 16777216 := by decide
  refine w_fn rfl ?_
  have e1 : ((n : Int) - 1).toNat = n - 1 := by omega
  have r1 : rngOk (1 : Int) = true := by decide
  simp [rng_small (n := n) (by omega), r1, e1, wipeE]
  refine ⟨?_, by omega⟩
  rw [pw_comp (w := "ok") hn' (fun i => by simp), wO_some]
  simp
  rw [pw_comp (w := last) hn' (fun i => by simp), wO_some]
  simp
  rw [pw_comp (w := "ask") hn' (fun i => by simp), wO_some]
  simp
  intro _
  refine (hd 2 (by omega)).at0 h ?_
  rintro d S1 ⟨v1, rfl, _, _⟩ h1 f1
  have l1 := f1.len
  have c1 : ∀ {S' : Sto} {x : Cell} {T : Sto}, S'.length = S.length → (S' ++ (x :: T))[S.length]? = some x := fun q => at_own (j := 0) q rfl
  simp [l1, lst_loc (c1 l1)]
  refine (hd 2 (by omega)).at h1 ?_
  rintro d S2 ⟨v2, rfl, _, _⟩ h2 f2
  have g2 := f1.trans f2
  have l2 := g2.len
  simp
  rw [app_loc (c1 l2) (by simp; omega), wO_some]
  have e := set_own (S := S) (T := [Cell.lst [rwD ⟨0, [], 1, pw n "ask", decide (v1 = 0)⟩]]) (j := 0) (c := .lst [rwD ⟨0, [], 1, pw n "ask", decide (v1 = 0)⟩, rwD ⟨1, pw n "ok", 2, pw n last, decide (v2 = 0)⟩]) l2
  simp [rwD] at e
  simp [e]
  have noc : ∀ (ρ : DD.Env) (S : Sto), 9 < ρ.length → compL (gN 9) (fun _ => true) mYes (mTup (mCons (mC (.int 1)) (mCons (mTup (mCons (mTup (mCons (mV 9) (mCons (mC (.str "no")) mNil))) mNil)) (mCons (mC (.int 3)) (mCons (mTup mNil) (mCons (mC (.bl false)) mNil)))))) ρ (rngL 1 (n - 1)) [] S = some ((pw n "no").map (fun p => rwD ⟨1, [p], 3, [], false⟩), S) := fun ρ S hr => by
    rw [show (1 : Int) = ((1 : Nat) : Int) from rfl, rngL_range, comp_m (fun d => .tup [.int 1, .tup [.tup [d, .str "no"]], .int 3, .tup [], .bl false]) _ [] (fun d hd => by
      obtain ⟨i, _, rfl⟩ := List.mem_map.mp hd
      have g : (ρ.set 9 (some (D.int i)))[9]? = some (some (.int i)) := List.getElem?_set_self hr
      simp [g]) (by simp; omega)]
    rw [List.nil_append, List.map_map, pw, List.map_map]
    rfl
  rw [noc _ _ (by simp), wO_some]
  simp only
  rw [addX_locR (c1 l2), if_pos (by simp [pw_len]; omega), wO_some]
  simp [l2]
  have c2 : ∀ {S' : Sto} {x y : Cell} {T : Sto}, S'.length = S.length → (S' ++ (x :: y :: T))[S.length + 1]? = some y := fun q => at_own (j := 1) q rfl
  rw [tup_loc (c2 l2), wO_some]
  generalize hca : Cell.lst [D.tup [D.int 0, D.tup [], D.int 1, D.tup (List.map prD (pw n "ask")), D.bl (decide (v1 = 0))], D.tup [D.int 1, D.tup (List.map prD (pw n "ok")), D.int 2, D.tup (List.map prD (pw n last)), D.bl (decide (v2 = 0))]] = ca
  have zero := hubB_ok inW (b1 := decide (v1 = 0)) (b2 := decide (v2 = 0)) hn hn' hw
  have ez : D.tup [D.tup [D.str "open", D.str "yes", D.str "done", D.str "off"], D.tup (D.tup [D.int 0, D.tup [], D.int 1, D.tup (List.map prD (pw n "ask")), D.bl (decide (v1 = 0))] :: D.tup [D.int 1, D.tup (List.map prD (pw n "ok")), D.int 2, D.tup (List.map prD (pw n last)), D.bl (decide (v2 = 0))] :: (pw n "no").map (fun p => rwD ⟨1, [p], 3, [], false⟩))] = bkD (hubB n last (decide (v1 = 0)) (decide (v2 = 0))) := by
    simp only [bkD, hubB, four, List.map_cons, List.map_nil, List.map_map]
    rfl
  generalize hcb : Cell.lst (D.tup [D.int 0, D.tup [], D.int 1, D.tup (List.map prD (pw n "ask")), D.bl (decide (v1 = 0))] :: D.tup [D.int 1, D.tup (List.map prD (pw n "ok")), D.int 2, D.tup (List.map prD (pw n last)), D.bl (decide (v2 = 0))] :: (pw n "no").map (fun p => rwD ⟨1, [p], 3, [], false⟩)) = cb
  simp only [ez]
  simp [l2]
  refine for_w (fun ds ρ Sx => (∃ y9 y10, ρ = [some (.loc G.dk), some (.int n), some (.str last), some (.tup [.str "open", .str "yes", .str "done", .str "off"]), some (.rol (rngL 1 (n - 1))), some (.tup ((pw n "ok").map prD)), some (.tup ((pw n last).map prD)), some (.loc (S.length + 1)), some (.loc (S.length + 2)), y9, y10]) ∧ ∃ (S' T' : Sto) (bs : List Bk), Sx = S' ++ (ca :: cb :: .lst (bs.map bkD) :: T') ∧ G.ok S' ∧ FQ G.own S S' ∧ bs.length + ds.length = n ∧ 1 ≤ bs.length ∧ ∀ h b, bs[h]? = some b → BkOk n h W b ∧ b.rs.length ≤ 5)
    (fun _ _ => False) (fun _ _ => False) (fun _ _ _ _ => rfl) ?_ ?_ (fun _ _ h => h.elim) (fun _ _ h => h.elim) _ _ _ ?_
  · rintro d ds ρ Sx ⟨⟨y9, y10, rfl⟩, S', T', bs, rfl, h', f', hl, hb1, hb⟩
    rw [List.length_cons] at hl
    simp
    refine (hd 2 (by omega)).at h' ?_
    rintro d S3 ⟨w1, rfl, _, _⟩ h3 f3
    have g3 := f'.trans f3
    have l3 := g3.len
    have tl : ∀ {x : Cell}, (S3 ++ (ca :: cb :: Cell.lst (bs.map bkD) :: (T' ++ [x])))[S.length + (T'.length + 1 + 1 + 1)]? = some x := at_own (T := ca :: cb :: Cell.lst (bs.map bkD) :: (T' ++ [_])) (j := T'.length + 1 + 1 + 1) l3 (by simp)
    simp [l3, lst_loc tl]
    refine (hd 2 (by omega)).at h3 ?_
    rintro d S4 ⟨w2, rfl, _, _⟩ h4 f4
    have g4 := g3.trans f4
    have l4 := g4.len
    have tl4 : ∀ {x : Cell}, (S4 ++ (ca :: cb :: Cell.lst (bs.map bkD) :: (T' ++ [x])))[S.length + (T'.length + 1 + 1 + 1)]? = some x := at_own (T := ca :: cb :: Cell.lst (bs.map bkD) :: (T' ++ [_])) (j := T'.length + 1 + 1 + 1) l4 (by simp)
    have st4 : ∀ {x y : Cell}, (S4 ++ (ca :: cb :: Cell.lst (bs.map bkD) :: (T' ++ [x]))).set (S.length + (T'.length + 1 + 1 + 1)) y = S4 ++ (ca :: cb :: Cell.lst (bs.map bkD) :: (T' ++ [y])) := fun {x y} => by
      rw [set_own (T := ca :: cb :: Cell.lst (bs.map bkD) :: (T' ++ [x])) (j := T'.length + 1 + 1 + 1) (c := y) l4]
      simp
    have fl4 : ∀ {S' T : Sto}, S'.length = S.length → (S' ++ (ca :: cb :: Cell.lst (bs.map bkD) :: T))[S.length + 2]? = some (.lst (bs.map bkD)) := fun q => at_own (j := 2) q rfl
    simp
    rw [app_loc tl4 (by simp; omega), wO_some]
    simp only [st4]
    rw [lst_loc (fl4 l4), wO_some]
    refine (hd 2 (by omega)).at h4 ?_
    rintro d S5 ⟨w3, rfl, _, _⟩ h5 f5
    have g5 := g4.trans f5
    have l5 := g5.len
    have tl5 : ∀ {x : Cell}, (S5 ++ (ca :: cb :: Cell.lst (bs.map bkD) :: (T' ++ [x])))[S.length + (T'.length + 1 + 1 + 1)]? = some x := at_own (T := ca :: cb :: Cell.lst (bs.map bkD) :: (T' ++ [_])) (j := T'.length + 1 + 1 + 1) l5 (by simp)
    simp
    rw [addX_locR tl5, if_pos (by simp; omega), wO_some]
    simp
    rw [app_loc (fl4 l5) (by simp; omega), wO_some]
    have e : D.tup [D.tup [D.str "open", D.str "yes", D.str "done", D.str "off"], D.tup [D.tup [D.int 0, D.tup [D.tup [D.int 0, D.str "ask"]], D.int 1, D.tup [D.tup [D.int 0, D.str "ok"]], D.bl (decide (w1 = 0))], D.tup [D.int 0, D.tup [D.tup [D.int 0, D.str "ask"]], D.int 3, D.tup [D.tup [D.int 0, D.str "no"]], D.bl (decide (w2 = 0))], D.tup [D.int 1, D.tup [D.tup [D.int 0, D.str last]], D.int 2, D.tup [], D.bl (decide (w3 = 0))]]] = bkD (leafB last (decide (w1 = 0)) (decide (w2 = 0)) (decide (w3 = 0))) := rfl
    rw [e, set_own (T := ca :: cb :: Cell.lst (bs.map bkD) :: (T' ++ [_])) (j := 2) l5]
    refine ⟨S5, T' ++ [_], bs ++ [leafB last (decide (w1 = 0)) (decide (w2 = 0)) (decide (w3 = 0))], by simp; rfl, h5, g5, by simp; omega, by simp, fun h b q => ?_⟩
    rw [List.getElem?_append] at q
    split at q
    · exact hb h b q
    · have : h = bs.length := by
        have := get_lt q
        simp at this
        omega
      subst this
      simp at q
      subst q
      exact leafB_ok inW hn hb1 hw
  · rintro ρ Sx ⟨⟨y9, y10, rfl⟩, S', T', bs, rfl, h', f', hl, hb1, hb⟩
    have c3 : (S' ++ (ca :: cb :: Cell.lst (bs.map bkD) :: T'))[S.length + 2]? = some (.lst (bs.map bkD)) := at_own (j := 2) f'.len rfl
    simp [tup_loc c3]
    exact Ret.val h' f' ⟨bs, rfl, hn, hn', by simpa using hl, hb⟩ (lf_ag bs)
  · refine ⟨⟨_, _, rfl⟩, S2, [], [hubB n last (decide (v1 = 0)) (decide (v2 = 0))], by simp, h2, g2, ?_, by simp, fun h b e => ?_⟩
    · rw [rngL_len]; simp; omega
    · cases h with
      | zero => simp at e; subst e; exact zero
      | succ h => simp at e
theorem agreementW (hd : Draws G draw) : Dsp G (gcZ (A_agreement draw)) [.loc G.dk] (fun d => ∃ n a, d = agD a ∧ ∃ W : List Str, AgOkW W n a ∧ W.length ≤ 4 ∧ (∀ w ∈ W, w ∈ WA)) := by
  refine Dsp.of fun S h => ?_
  have nat : sizeLine = 16777216 := by decide
  have pk := fun {q : D} {xs : List D} => pickG (q := q) (xs := xs) hd
  refine w_fn rfl ?_
  simp
  refine (pk (q := .rol [.int 2, .int 2, .int 3, .int 3, .int 4]) (.inl rfl) (by simp) (by simp) (fun x hx => by simp at hx; rcases hx with rfl | rfl | rfl <;> exact lf_int)).at0 h ?_
  rintro d S1 hd1 h1 f1
  obtain ⟨n, rfl, hn, hn'⟩ : ∃ c : Nat, d = .int c ∧ 2 ≤ c ∧ c ≤ 4 := by
    simp at hd1
    rcases hd1 with rfl | rfl | rfl <;> first | exact ⟨2, rfl, by omega, by omega⟩ | exact ⟨3, rfl, by omega, by omega⟩ | exact ⟨4, rfl, by omega, by omega⟩
  refine (hd 3 (by omega)).at0 h1 ?_
  rintro d S2 ⟨v, rfl, _, _⟩ h2 f2
  have g2 := f1.trans f2
  simp
  by_cases v0 : v = 0
  · refine .inr ⟨v0, ?_⟩
    refine (pk (q := .rol [.str "do", .str "a", .str "ok"]) (.inl rfl) (by simp) (by simp) (fun x hx => by simp at hx; rcases hx with rfl | rfl | rfl <;> exact lf_str)).at0 h2 ?_
    rintro d S3 hd3 h3 f3
    obtain ⟨w, rfl, hw⟩ : ∃ w : Str, d = .str w ∧ w ∈ WA := by
      simp at hd3
      rcases hd3 with rfl | rfl | rfl <;> exact ⟨_, rfl, by decide +kernel⟩
    refine (askingA (W := [w, "ask", "ok", "no"]) ⟨by simp, by simp, by simp⟩ hd hn hn' (by simp)).at0 h3 ?_
    rintro d S4 ⟨a, rfl, ha⟩ h4 f4
    exact Ret.val0 h4 (g2.trans (f3.trans f4)) ⟨n, a, rfl, _, ha, by simp, fun x hx => by
      obtain ⟨i1, i2, i3⟩ := inWA
      simp at hx
      rcases hx with rfl | rfl | rfl | rfl
      · exact hw
      · exact i1
      · exact i2
      · exact i3⟩ (lf_ag a)
  · refine .inl ⟨v0, ?_⟩
    simp [rng_small (n := n) (by omega), wipeE]
    refine comp_w (fun ds acc Sx => ∃ (S' : Sto) (bs : List Bk), Sx = S' ∧ acc = bs.map bkD ∧ G.ok S' ∧ FQ G.own S S' ∧ ds = (List.range' bs.length (n - bs.length)).map (fun i => D.int (i : Nat)) ∧ bs.length ≤ n ∧ ∀ h b, bs[h]? = some b → BkOk n h W6 b ∧ b.rs.length ≤ 5) (fun _ _ _ _ => rfl) ?_ ?_ _ _ _ ?_
    · rintro d ds acc Sx ⟨S', bs, rfl, rfl, h', f', hd', hl, hb⟩
      have hlt : bs.length < n := by
        rcases Nat.lt_or_ge bs.length n with q | q
        · exact q
        · rw [show n - bs.length = 0 by omega] at hd'; cases hd'
      rw [show n - bs.length = (n - (bs.length + 1)) + 1 by omega, List.range'_succ, List.map_cons] at hd'
      cases hd'
      simp
      refine (pk (q := .rol [.int 3, .int 4, .int 5, .int 8]) (.inl rfl) (by simp) (by simp) (fun x hx => by simp at hx; rcases hx with rfl | rfl | rfl | rfl <;> exact lf_int)).at0 h' ?_
      rintro d S3 hd3 h3 f3
      obtain ⟨c, rfl, c1, c2⟩ : ∃ c : Nat, d = .int c ∧ 1 ≤ c ∧ c ≤ 8 := by
        simp at hd3
        rcases hd3 with rfl | rfl | rfl | rfl <;> first | exact ⟨3, rfl, by omega, by omega⟩ | exact ⟨4, rfl, by omega, by omega⟩ | exact ⟨5, rfl, by omega, by omega⟩ | exact ⟨8, rfl, by omega, by omega⟩
      refine (bookA hd (house := bs.length) hn hn' c1 c2).at0 h3 ?_
      rintro d S4 ⟨b, rfl, hb1, hb2⟩ h4 f4
      refine ⟨by omega, ?_⟩
      refine ⟨bs ++ [b], by simp, h4, f'.trans (f3.trans f4), by simp, by simp; omega, fun h c q => ?_⟩
      rw [List.getElem?_append] at q
      split at q
      · exact hb h c q
      · have : h = bs.length := by
          have := get_lt q
          simp at this
          omega
        subst this
        simp at q
        subst q
        exact ⟨hb1, hb2⟩
    · rintro acc Sx ⟨S', bs, rfl, rfl, h', f', hd', hl, hb⟩
      have : bs.length = n := by
        have := congrArg List.length hd'
        simp at this
        omega
      simp
      exact Ret.val0 h' f' ⟨n, bs, rfl, W6, ⟨hn, hn', this, hb⟩, by decide, fun x hx => W6_WA hx⟩ (lf_ag bs)
    · exact ⟨S2, [], rfl, rfl, h2, g2, by simp; rw [rngL_zero, List.range_eq_range'], by simp, by simp⟩
end FW
end DD

/-! tuple * 0; a list that is a cell * an int. -/
namespace DD
open PySem PySem.Spec PyProof.Rows L2
theorem tuple_mul_none (l : Addr) (items : Array Value) (n : Nat) (dd : Option Addr) (sl : Array (Option Value)) (x : Int) (u : Tok) (c0 : (decide (x < -(2 ^ 63)) || decide (x ≥ 2 ^ 63)) = false) (c1 : (items.isEmpty || x == 1) = false) (c2 : (decide (x ≤ 0) || items.isEmpty) = true) :
    Meets (Builtin.«tuple.__mul__» ⟨[.ref l, .int x u], []⟩) (fun _ R s => s.heap.get? l = some { cls := .type "tuple", dict := dd, data := .seq items n, slots := sl } ∧
      R (.ok (.ret (Value.ref s.heap.objs.size))) { s with heap := s.heap.push { cls := Value.type "tuple", data := Data.seq #[] }, toks := s.toks }) :=
  .of_wp fun prog w A R s h => by
    obtain ⟨hp, g, d, tk, os⟩ := s
    obtain ⟨hl, h⟩ := h
    have f1 := AutoSeq1.idx_int
    wp_walk using wpAny_loadPart' hl
    repeat (first
      | (refine wpAny_ite_false (decide_eq_false (by rw [c0]; exact Bool.false_ne_true)) ?_; wp_walk using wpAny_loadPart' hl)
      | (refine wpAny_ite_false (decide_eq_false (by rw [c1]; exact Bool.false_ne_true)) ?_; wp_walk using wpAny_loadPart' hl)
      | (refine wpAny_ite_true (decide_eq_true (by rw [c2])) ?_; wp_walk using wpAny_loadPart' hl))
    exact ⟨_, rfl, h⟩
def rRepZ (K : PySem.W.Frag) : R2 := fun x y H Q => ∃ l k xs, x = .ref l ∧ y = .int k ∧ SqT K H l xs ∧ xs ≠ [] ∧ -1000 ≤ k ∧ k ≤ 0 ∧ ∀ p, H p = none → Q (.ref p) (upd H p (.tup []))
section
variable {X : Cx}
theorem op_repZ : OpR X (binaryOp .Mult) (rRepZ X.K) := by
  intro pins s σ H x y v u Q I rx ry h
  obtain ⟨l, k, xs, rfl, rfl, hT, hne, k0, k1, q⟩ := h
  cases rx
  obtain ⟨t, rfl⟩ := ry
  obtain ⟨its, r, ⟨⟨cls, dd, data, sl⟩, ho, hc, n, hd⟩, hs⟩ := I.tuple hT
  simp only at hc hd
  subst hc hd
  have hi : its.toArray.isEmpty = false := by
    cases its with
    | nil => cases r; exact absurd rfl hne
    | cons a b => rfl
  have c0 : (decide (k < -(2 ^ 63)) || decide (k ≥ 2 ^ 63)) = false := by
    rw [decide_eq_false (by omega), decide_eq_false (by omega)]
    rfl
  have c1 : (its.toArray.isEmpty || k == 1) = false := by
    rw [hi, Bool.false_or]
    exact beq_eq_false_iff_ne.mpr (by omega)
  have c2 : (decide (k ≤ 0) || its.toArray.isEmpty) = true := by
    rw [decide_eq_true k1]
    rfl
  refine wpAny_binaryOp_repeat_ref (T := "tuple") (U := "int") (by decide) ⟨_, ho, rfl⟩ (fun s' => typeIs_int s' k t) noFill_tuple_mul F.fills_int_mul F.slot_int_rmul repeat_tuple F.slot_int_index.lookup
    (call_meets F.slot_int_rmul (typeIs_int s k t) F.entry_int_rmul (F.args_int_rmul_2 _ _) (int_rmul_tuple k t l its.toArray n dd sl)
      ⟨ho, rfl, ⟨_, ho, rfl⟩, call_meets F.slot_tuple_mul ⟨_, ho, rfl⟩ F.entry_tuple_mul (F.args_tuple_mul_2 _ _) (tuple_mul_none l its.toArray n dd sl k t c0 c1 c2) ⟨ho, ?_⟩⟩)
  exact ⟨.ref s.heap.objs.size, _, I.laid (t' := s.toks) (o := .tup []) (fun b ob q => Heap.get?_push_of_some _ q) (Nat.le_refl _) ⟨Nat.zero_le _, [], .nil, IsTup.new _ _⟩, rfl, q _ (I.hok.fresh (Nat.le_refl _))⟩
end
/-- .. upon data -/
def mulB : Op2 := fun d e S => match d, e with
  | .tup ds, .int k => if 1 ≤ k then mulA (.tup ds) (.int k) S else if ds ≠ [] ∧ k = 0 then some (.tup [], S) else none
  | .loc n, .int k => match S[n]? with
    | some (.lst ds) => if 0 ≤ k ∧ k ≤ 1000 ∧ ds.length ≤ 1000 then some (.loc S.length, S ++ [.lst (List.replicate k.toNat ds).flatten]) else none
    | _ => none
  | _, _ => none
theorem flat_len {α : Type} {ds : List α} : ∀ n : Nat, (List.replicate n ds).flatten.length = n * ds.length
  | 0 => by simp
  | n + 1 => by rw [List.replicate_succ, List.flatten_cons, List.length_append, flat_len n, Nat.succ_mul, Nat.add_comm]
theorem od_mulB {K : PySem.W.Frag} : OpD K (fun x y H Q => (rI CMul (fun i j => .int (i * j)) x y H Q ∨ rRepS K x y H Q ∨ rRepT K x y H Q) ∨ rRepZ K x y H Q ∨ rRep x y H Q) mulB := by
  intro H m S x y d e d' S' Q s rx ry h q
  match d, e, h with
  | .tup ds, .int k, h =>
    simp only [mulB] at h
    by_cases h1 : 1 ≤ k
    · rw [if_pos h1] at h
      exact .inl (od_mulA H m S x y _ _ d' S' Q s rx ry h q)
    · rw [if_neg h1] at h
      by_cases h0 : ds ≠ [] ∧ k = 0
      · rw [if_pos h0] at h
        cases h
        cases ry
        cases rx with
        | @tup a vs _ hs rs =>
          refine .inr (.inl ⟨a, k, vs, rfl, rfl, hs, fun e => ?_, by omega, by omega, fun p hp => q _ _ m (Ext.new1 hp) (s.new1 hp) (.tup (SqT.of upd_same) .nil)⟩)
          subst e
          cases rs
          exact h0.1 rfl
      · rw [if_neg h0] at h; cases h
  | .loc n, .int k, h =>
    simp only [mulB] at h
    cases hn : S[n]? with
    | none => rw [hn] at h; cases h
    | some c =>
      rw [hn] at h
      cases c with
      | dic _ => cases h
      | lst ds =>
        by_cases hz : 0 ≤ k ∧ k ≤ 1000 ∧ ds.length ≤ 1000
        · simp only [if_pos hz] at h
          cases h
          cases ry
          obtain ⟨a, vs, rfl, hm, e1, rs⟩ := s.lst rx hn
          have ll := rs.length
          have sz : sizeLine = 16777216 := by decide
          refine .inr (.inr ⟨a, k, vs, rfl, rfl, e1, by omega, by omega, ?_, fun p hp => ?_⟩)
          · have : vs.length * k.toNat ≤ 1000 * 1000 := Nat.mul_le_mul (by omega) (by omega)
            omega
          · obtain ⟨q1, q2, q3⟩ := newL s (rep_flat rs k.toNat) hp
            exact q _ _ _ q1 q2 q3
        · simp only [if_neg hz] at h; cases h
section
variable {X : Cx} {a b : Expr} {fa fb : Ex} {pos : Pos}
theorem de_mulB (ha : DE X a fa) (hb : DE X b fb) : DE X (.BinOp a .Mult b pos) (m2 mulB fa fb) := de_op ((op_mul.or (op_repS.or op_repT)).or (op_repZ.or op_rep)) od_mulB ha hb
end
end DD

/-! List comprehensions of several fors. -/
namespace DD
open PySem PySem.Spec PyProof.Rows L2
section
variable {prog : Program} {w : World} {A : Around} {elt : Expr} {gens : List Comprehension} {scope : Scope} {pos : Pos} {d : Nat} {it acc : Value} {env : PySem.Env} {tg iter : Expr} {ifs : List Expr} {R : Result → Shared → Prop} {s : Shared}
/-- what a turn does with its items: the next for, or the element -/
def partOf (elt : Expr) (gens : List Comprehension) (scope : Scope) (pos : Pos) (d : Nat) (acc : Value) (env : PySem.Env) : Sem Unit :=
  match gens[d]? with
  | some g' => do
      let x ← eval g'.iter env
      standAt g'.iter.pos
      let x ← if g'.is_async != 0 then foldedIterable g'.iter x else foldedSetIterable g'.iter env x
      let _ ← runOwn (.compStart (.ListComp elt gens scope pos) d (← holding [x] (if g'.is_async != 0 then asyncIter x else pyIter x)) acc env) env
  | none => do let _ ← call (.builtin "list.append") [acc, ← eval elt env]
theorem turn_last (hg : gens[d]? = some ⟨tg, iter, ifs, 0⟩) (hn : gens[d + 1]? = none) :
    compTurn (.ListComp elt gens scope pos) d it acc env = (do
      standAt iter.pos
      match ← pyNext it with
      | none => pure (.done .next)
      | some v =>
        letOwnedTupleGo tg it v
        assign tg env v
        let mut ok := true
        for c in ifs do
          if ok then ok ← isTrue c env (eval c env)
        if ok then
          (do let _ ← call (.builtin "list.append") [acc, ← eval elt env])
        again (.compLoop (.ListComp elt gens scope pos) d it acc env)) := by
  unfold compTurn
  simp only [hg, hn]
  rfl
theorem turn_next {g' : Comprehension} (hg : gens[d]? = some ⟨tg, iter, ifs, 0⟩) (hn : gens[d + 1]? = some g') :
    compTurn (.ListComp elt gens scope pos) d it acc env = (do
      standAt iter.pos
      match ← pyNext it with
      | none => pure (.done .next)
      | some v =>
        letOwnedTupleGo tg it v
        assign tg env v
        let mut ok := true
        for c in ifs do
          if ok then ok ← isTrue c env (eval c env)
        if ok then
          let x ← eval g'.iter env
          standAt g'.iter.pos
          let x ← if g'.is_async != 0 then foldedIterable g'.iter x else foldedSetIterable g'.iter env x
          let _ ← runOwn (.compStart (.ListComp elt gens scope pos) (d + 1) (← holding [x] (if g'.is_async != 0 then asyncIter x else pyIter x)) acc env) env
        again (.compLoop (.ListComp elt gens scope pos) d it acc env)) := by
  unfold compTurn
  simp only [hg, hn]
  rfl
/-- .. ahead of what comes behind it -/
def partK (elt : Expr) (gens : List Comprehension) (scope : Scope) (pos : Pos) (d : Nat) (acc : Value) (env : PySem.Env) (k : Sem Fin) : Sem Fin :=
  match gens[d]? with
  | some g' => do
      let x ← eval g'.iter env
      standAt g'.iter.pos
      let x ← if g'.is_async != 0 then foldedIterable g'.iter x else foldedSetIterable g'.iter env x
      let _ ← runOwn (.compStart (.ListComp elt gens scope pos) d (← holding [x] (if g'.is_async != 0 then asyncIter x else pyIter x)) acc env) env
      k
  | none => do
      (do let _ ← call (.builtin "list.append") [acc, ← eval elt env])
      k
abbrev testsK (ifs : List Expr) (env : PySem.Env) : Sem Bool := forIn ifs true fun c r => if r = true then do let ok ← isTrue c env (eval c env); pure (ForInStep.yield ok) else pure (ForInStep.yield r)
abbrev FF : Value → Shared → Prop := fun _ _ => False
/-- the loop of a for -/
theorem loopK (hg : gens[d]? = some ⟨tg, iter, ifs, 0⟩) (I : Nat → Shared → Prop) (Post : Shared → Prop)
    (turn : ∀ n s, I n s → wpAny (model prog w) A (pyNext it) (fun r s₁ => match r with
      | none => Post s₁
      | some v => wpAny (model prog w) A (letOwnedTupleGo tg it v) (fun _ s₁' => wpAny (model prog w) A (assign tg env v) (fun _ s₂ =>
          wpAny (model prog w) A (testsK ifs env) (fun ok s₃ =>
            if ok = true then ∀ (k : Sem Fin) (Qk : Fin → Shared → Prop) (E : Value → Shared → Prop), (∀ s₅, (∃ m, m < n ∧ I m s₅) → wpAny (model prog w) A k Qk E s₅) → wpAny (model prog w) A (partK elt gens scope pos (d + 1) acc env k) Qk E s₃
            else ∃ m, m < n ∧ I m s₃) FF s₂) FF s₁') FF s₁) FF s)
    (n : Nat) (h : I n s) :
    codeAny (model prog w) A (.compLoop (.ListComp elt gens scope pos) d it acc env) (fun r s' => match r with | .ok .next => Post s' | _ => False) s := by
  refine codeAny_loop rfl I (fun n s hI => ?_) n h
  show wpAny _ A ((compTurn (.ListComp elt gens scope pos) d it acc env).onRaise (fun x => do noteFrame x env; theTreesLotGoes x)) _ _ s
  refine wpAny_noted ?_
  cases hn : gens[d + 1]? with
  | none =>
    rw [turn_last hg hn]
    refine wpAny_bind (wpAny_standAt (wpAny_bind (thnF (turn n s hI) fun r s₁ h₁ => ?_)))
    cases r with
    | none => exact wpAny_pure h₁
    | some v =>
      refine wpAny_bind (thnF h₁ fun _ s₁' h₁' => ?_)
      refine wpAny_bind (thnF h₁' fun _ s₂ h₂ => wpAny_bind (thnF h₂ fun ok s₃ h₃ => ?_))
      cases ok with
      | false => exact wpAny_pure ⟨rfl, h₃⟩
      | true =>
        simp only [if_true] at h₃
        have := h₃ (again (.compLoop (.ListComp elt gens scope pos) d it acc env))
        unfold partK at this
        simp only [hn] at this
        exact this _ _ fun s₅ h₅ => wpAny_pure ⟨rfl, h₅⟩
  | some g' =>
    rw [turn_next hg hn]
    refine wpAny_bind (wpAny_standAt (wpAny_bind (thnF (turn n s hI) fun r s₁ h₁ => ?_)))
    cases r with
    | none => exact wpAny_pure h₁
    | some v =>
      refine wpAny_bind (thnF h₁ fun _ s₁' h₁' => ?_)
      refine wpAny_bind (thnF h₁' fun _ s₂ h₂ => wpAny_bind (thnF h₂ fun ok s₃ h₃ => ?_))
      cases ok with
      | false => exact wpAny_pure ⟨rfl, h₃⟩
      | true =>
        simp only [if_true] at h₃
        have := h₃ (again (.compLoop (.ListComp elt gens scope pos) d it acc env))
        unfold partK at this
        simp only [hn] at this
        exact this _ _ fun s₅ h₅ => wpAny_pure ⟨rfl, h₅⟩
/-- a for begins -/
theorem startK (hg : gens[d]? = some ⟨tg, iter, ifs, 0⟩) (h0 : codeAny (model prog w) A (.compLoop (.ListComp elt gens scope pos) d it acc env) R s)
    (h : wpAny (model prog w) A (pyIter it) (fun it' s' => codeAny (model prog w) A (.compLoop (.ListComp elt gens scope pos) d it' acc env) R s') (notedBy (model prog w) A env fun x s' => R (.error x) s') s) :
    codeAny (model prog w) A (.compStart (.ListComp elt gens scope pos) d it acc env) R s := by
  refine codeAny_of_tree ?_
  show wpAny _ A ((compStart (.ListComp elt gens scope pos) d it acc env).onRaise (fun x => do noteFrame x env; standAt theWindowsPlace)) _ _ s
  refine wpAny_notedAt ?_
  unfold compStart
  have e : (clausesOf (.ListComp elt gens scope pos))[d]? = some ⟨tg, iter, ifs, 0⟩ := hg
  simp only [e]
  show wpAny _ A (ask >>= _) _ _ s
  refine wpAny_bind (wpAny_askSetting (wpAny_ite ?_))
  split
  · first
      | exact wpAny_bind (wpAny_pure (wpAny_pure (And.intro rfl h0)))
      | exact wpAny_pure (And.intro rfl h0)
  · first
      | exact wpAny_bind (wpAny_rule (wpAny_bind (wpAny_standAt (wpAny_bind (wpAny_mono h (fun it' s' h' => wpAny_pure (And.intro rfl h')) fun _ _ x => x)))))
      | (refine wpAny_bind (wpAny_rule ?_); show wpAny _ _ (standAt iter.pos >>= _) _ _ s; exact wpAny_bind (wpAny_standAt (wpAny_bind (wpAny_mono h (fun it' s' h' => wpAny_pure (And.intro rfl h')) fun _ _ x => x))))
end
theorem wipe_sub {σ τ : L2.St} {vs vs' : List Nat} (hs : ∀ i ∈ vs', i ∈ vs) (h : wipe σ vs' = wipe τ vs') : wipe σ vs = wipe τ vs := by
  refine List.ext_getElem? fun j => ?_
  have e := congrArg (fun l => l[j]?) h
  simp only [wipe_get] at e ⊢
  have hl : σ.length = τ.length := by have := congrArg List.length h; simpa [wipe_length] using this
  by_cases hj : j ∈ vs
  · rw [if_pos hj, if_pos hj]
    by_cases q : j < σ.length
    · rw [List.getElem?_eq_getElem q, List.getElem?_eq_getElem (by omega)]
      rfl
    · rw [List.getElem?_eq_none (by omega), List.getElem?_eq_none (by omega)]
  · rw [if_neg hj, if_neg hj]
    rwa [if_neg (fun q => hj (hs j q)), if_neg (fun q => hj (hs j q))] at e
theorem wipe_two {σ : L2.St} {vs : List Nat} : wipe (wipe σ vs) vs = wipe σ vs := by
  refine List.ext_getElem? fun j => ?_
  rw [wipe_get, wipe_get]
  by_cases hj : j ∈ vs
  · rw [if_pos hj, if_pos hj]
    cases σ[j]? <;> rfl
  · rw [if_neg hj, if_neg hj]
/-- the rest of a block's turn, in the block -/
structure PCL (B : Cx) (elt : Expr) (gens : List Comprehension) (scope : Scope) (pos : Pos) (d : Nat) (vs : List Nat) (t : L2.St → Hp → Addr → (Hp → Prop) → Prop) : Prop where
  run : ∀ (pins : List (Addr × Obj)) (s : Shared) (σ : L2.St) (H : Hp) (D : Addr) (R : Hp → Prop) (k : Sem Fin) (Qk : Fin → Shared → Prop) (E : Value → Shared → Prop), L2.Inv B pins σ H s → t σ H D R →
    (∀ s' σ' H', L2.Inv B pins σ' H' s' → wipe σ' vs = wipe σ vs → R H' → wpAny (model B.prog B.w) B.A k Qk E s') → wpAny (model B.prog B.w) B.A (partK elt gens scope pos d (.ref D) B.env k) Qk E s
section
variable {B : Cx} {elt tg iter : Expr} {ifs : List Expr} {gens : List Comprehension} {scope : Scope} {pos : Pos} {d : Nat} {vs vs' : List Nat} {wi : TI} {g : TG} {tt : TT} {te : TE} {t' : L2.St → Hp → Addr → (Hp → Prop) → Prop}
theorem pcl_end (hn : gens[d]? = none) (hx : B.xe = FF) (he : PE B elt te) : PCL B elt gens scope pos d vs (fun σ H D R => te σ H fun y H4 => ∃ acc, H4 D = some (.lst acc) ∧ acc.length < sizeLine ∧ R (upd H4 D (.lst (acc ++ [y])))) := by
  refine ⟨fun pins s σ H D R k Qk E I h fin => ?_⟩
  unfold partK
  simp only [hn]
  have hr := he.run pins s σ H _ I h
  rw [hx] at hr
  refine wpAny_bind (wpAny_bind (thnF hr fun z s10 ⟨yv, H10, I10, r10, acc, hD10, hz10, nx⟩ => ?_))
  exact wpAny_bind (app_ok (X := B) I10 hD10 hz10 r10 fun s11 I11 => wpAny_pure (fin s11 σ _ I11 rfl nx))
/-- a for within -/
def tIn (wi : TI) (g : TG) (tt : TT) (t' : L2.St → Hp → Addr → (Hp → Prop) → Prop) (vs : List Nat) : L2.St → Hp → Addr → (Hp → Prop) → Prop := fun σ H D R => wi σ H fun J H1 => ∃ W : Nat → Nat → Hp → Prop, (∃ m, W 0 m H1) ∧ ∀ i m H, W i m H →
  (J.stop i H ∧ R H) ∨ (J.go i H ∧ ∃ Nx : Hp → Prop, (∀ H', Nx H' → ∃ m', m' < m ∧ W (i + 1) m' H') ∧ ∀ x H', J.yld i H x H' → g x (wipe σ vs) H' fun σ2 H2 => wipe σ2 vs = wipe σ vs ∧ tt σ2 H2 fun b H3 => if b = true then t' σ2 H3 D Nx else Nx H3)
theorem pcl_step (hg0 : gens[d]? = some ⟨tg, iter, ifs, 0⟩) (hx : B.xe = FF) (hc : B.calm = true) (hi : PI B tg iter wi) (hg : PG B tg g) (ht : PTs B ifs tt) (hn : PCL B elt gens scope pos (d + 1) vs' t') (hsub : ∀ i ∈ vs', i ∈ vs)
    (hs : ∀ x, foldedSetIterable iter B.env x = pure x := by intro _; rfl) : PCL B elt gens scope pos d vs (tIn wi g tt t' vs) := by
  refine ⟨fun pins s σ H D R k Qk E I h fin => ?_⟩
  unfold partK
  simp only [hg0]
  have hr := hi.run pins s σ H _ I h
  rw [hx] at hr
  refine wpAny_bind (thnF hr fun xv s1 h1 => ?_)
  refine wpAny_bind (wpAny_standAt (wpAny_bind (wpAny_of_eq (hs xv) ?_)))
  refine wpAny_bind (wpAny_holding (thnF h1 fun itv s2 h2 => ?_))
  obtain ⟨it, fp, tn, J, H2, e, I2, T, st2, f2, W, ⟨m0, w0⟩, turn⟩ := h2
  subst e
  have stat : ∀ {H' : Hp}, (∀ b ∈ fp, H' b = none) → ∀ b ∈ fp, FpOk B pins H' b := fun hn b hb => ⟨hn b hb, (f2 b hb).2⟩
  have weak : ∀ {pins : List (Addr × Obj)} {σ' : L2.St} {H' : Hp} {s' : Shared}, L2.Inv B pins σ' H' s' → wipe σ' vs = wipe σ vs → L2.Inv B pins (wipe σ vs) H' s' := fun {pins σ' H' s'} I' e => by
    rw [← e]
    exact I'.weak (wipe_length _ _) fun i v q => (wipe_some q).1
  have loop : codeAny (model B.prog B.w) B.A (.compLoop (.ListComp elt gens scope pos) d (.ref it) (.ref D) B.env) (fun r s' => match r with | .ok .next => ∃ H', L2.Inv B pins (wipe σ vs) H' s' ∧ R H' | _ => False) s2 := by
    refine loopK hg0 (fun n s' => ∃ i H', L2.Inv B pins (wipe σ vs) H' s' ∧ tn i s'.heap ∧ (∀ b ∈ fp, H' b = none) ∧ W i n H') _ ?_ m0 ⟨0, H2, weak I2 rfl, st2, fun b hb => (f2 b hb).1, w0⟩
    rintro n s3 ⟨i, H3, I3, st3, fr3, w3⟩
    rcases turn i n H3 w3 with ⟨stop, qn⟩ | ⟨go, Nx, hNx, step⟩
    · refine thnF (T.done B rfl rfl rfl hc i pins s3 _ H3 FF I3 (stat fr3) st3 stop) fun r s4 ⟨hr, I4⟩ => ?_
      subst hr
      exact ⟨H3, I4, qn⟩
    · refine thnF (T.item B rfl rfl rfl hc i pins s3 _ H3 FF I3 (stat fr3) st3 go) fun r s4 ⟨u, hr, h4⟩ => ?_
      subst hr
      refine thnF h4 fun _ s5 ⟨x, H5, I5, r5, y5, st5, fr5⟩ => ?_
      have I5' := I5.pinned (stat fr5) (T.obj _ _ st5)
      have pg := hg.run _ s5 _ H5 x u _ I5' r5 (step x H5 y5)
      rw [hx] at pg
      refine thnF pg fun _ s6 ⟨σ6, H6, I6, hw6, q6⟩ => ?_
      have pt := ht.run _ s6 σ6 H6 _ I6 q6
      rw [hx] at pt
      refine thnF pt fun b s7 ⟨H7, I7, q7⟩ => ?_
      have again : ∀ {s' : Shared} {σ' : L2.St} {H' : Hp}, L2.Inv B (pins ++ pinsAt fp s5.heap) σ' H' s' → wipe σ' vs = wipe σ6 vs → Nx H' → ∃ m, m < n ∧ ∃ i H', L2.Inv B pins (wipe σ vs) H' s' ∧ tn i s'.heap ∧ (∀ b ∈ fp, H' b = none) ∧ W i m H' := fun {s' σ' H'} I' e nx => by
        obtain ⟨m', hm, w7⟩ := hNx H' nx
        refine ⟨m', hm, i + 1, H', weak I'.unpinned (e.trans hw6), T.keep _ _ _ st5 fun b hb o e => (I'.pin (b, o) (List.mem_append_right _ (List.mem_append_right _ (mem_pinsAt hb e)))).1, fun b hb => ?_, w7⟩
        obtain ⟨o, e, _⟩ := T.obj _ _ st5 b hb
        exact (I'.pin (b, o) (List.mem_append_right _ (List.mem_append_right _ (mem_pinsAt hb e)))).2.1
      cases b with
      | false =>
        simp only [Bool.false_eq_true, if_false] at q7 ⊢
        exact again I7 rfl q7
      | true =>
        simp only [if_true] at q7 ⊢
        intro k Qk E fin'
        exact hn.run _ s7 σ6 H7 D Nx k Qk E I7 q7 fun s' σ' H' I' e nx => fin' s' (again I' (wipe_sub hsub e) nx)
  refine wpAny_bind (wpAny_runOwn ?_)
  refine startK hg0 ?_ (T.self B.A 0 _ _ _ st2 ?_)
  all_goals
    refine codeAny_mono loop fun r s' hr => ?_
    cases r with
    | error e => exact hr.elim
    | ok f =>
      cases f with
      | next =>
        obtain ⟨H', I', r'⟩ := hr
        exact fin s' _ H' I' wipe_two r'
      | _ => exact hr.elim
end
end DD

/-! Comprehensions of several fors, as a whole; upon data. -/
namespace DD
open PySem PySem.Spec PyProof.Rows L2
section
variable {X : Cx} {elt tg iter : Expr} {ifs : List Expr} {rest gens : List Comprehension} {scope : Scope} {own : List (Str × Nat)} {pos pos' : Pos} {wi : TI} {g : TG} {tt : TT} {t' : L2.St → Hp → Addr → (Hp → Prop) → Prop} {vs' : List Nat}
/-- the first for: D is the list that grows -/
def tTop (wi : TI) (g : TG) (tt : TT) (t' : L2.St → Hp → Addr → (Hp → Prop) → Prop) (vs : List Nat) : TE := fun σ H Q => wi σ H fun J H1 => ∀ D, H1 D = none → ∃ W : Nat → Nat → Hp → Prop, (∃ m, W 0 m (upd H1 D (.lst []))) ∧ ∀ i m H, W i m H →
  (J.stop i H ∧ Q (.ref D) H) ∨ (J.go i H ∧ ∃ Nx : Hp → Prop, (∀ H', Nx H' → ∃ m', m' < m ∧ W (i + 1) m' H') ∧ ∀ x H', J.yld i H x H' → g x (wipe σ vs) H' fun σ2 H2 => wipe σ2 vs = wipe σ vs ∧ tt σ2 H2 fun b H3 => if b = true then t' σ2 H3 D Nx else Nx H3)
abbrev bEnv (X : Cx) (scope : Scope) (n : Nat) : PySem.Env := compEnvC scope (cellsFrom (n + 1) scope.names (cloFrom X.env.cells scope.names [])) n X.env
/-- the block's loop, from where its own variables are laid -/
theorem top_loop {pins : List (Addr × Obj)} {s3 s4 : Shared} {σ : L2.St} {H3 : Hp} {Q : VK} {D it : Addr} {fp : List Addr} {tn : Nat → Heap → Prop} {J : It} {Post : Shared → Prop} {W : Nat → Nat → Hp → Prop} {m0 : Nat} {vs : List Nat}
    (hc : X.calm = true) (I3 : L2.Inv X pins σ H3 s3) (T : Turn X.prog X.w X.K tg J fp it tn) (f3 : ∀ b ∈ fp, FpOk X pins H3 b) (w0 : W 0 m0 H3)
    (turn : ∀ i m H, W i m H → (J.stop i H ∧ Q (.ref D) H) ∨ (J.go i H ∧ ∃ Nx : Hp → Prop, (∀ H', Nx H' → ∃ m', m' < m ∧ W (i + 1) m' H') ∧ ∀ x H', J.yld i H x H' → g x (wipe σ vs) H' fun σ2 H2 => wipe σ2 vs = wipe σ vs ∧ tt σ2 H2 fun b H3 => if b = true then t' σ2 H3 D Nx else Nx H3))
    (pg : PG (X.blk s3 H3 scope (bEnv X scope s3.heap.objs.size) fp) tg g) (pt : PTs (X.blk s3 H3 scope (bEnv X scope s3.heap.objs.size) fp) ifs tt) (pn : PCL (X.blk s3 H3 scope (bEnv X scope s3.heap.objs.size) fp) elt gens scope pos 1 vs' t') (hsub : ∀ i ∈ vs', i ∈ vs)
    (I4 : L2.Inv (X.blk s3 H3 scope (bEnv X scope s3.heap.objs.size) fp) [] (wipe σ vs) H3 s4) (st4 : tn 0 s4.heap) (hg0 : gens[0]? = some ⟨tg, iter, ifs, 0⟩)
    (done : ∀ s' m H', L2.Inv X pins σ H' s' → Q (.ref D) H' → s'.heap.Ns s3.heap.objs.size m → FpOk X pins H' s3.heap.objs.size → Post s') :
    codeAny (model X.prog X.w) X.A (.compLoop (.ListComp elt gens scope pos) 0 (.ref it) (.ref D) (bEnv X scope s3.heap.objs.size)) (fun r s' => match r with | .ok .next => Post s' | _ => False) s4 := by
  generalize hB : X.blk s3 H3 scope (bEnv X scope s3.heap.objs.size) fp = B at pg pt pn I4
  have own : ∀ {τ : L2.St} {H' : Hp} {s' : Shared}, L2.Inv B [] τ H' s' → (∀ b ∈ fp, H' b = none) → ∀ b ∈ fp, FpOk B [] H' b := fun {τ H' s'} Y hn b hb => by
    subst hB
    exact ⟨hn b hb, (Y.ok.exf b hb).1, Y.ok.exfs b hb, .inl hb, fun x c e => (Y.ok.exf b hb).2 x c e, fun p hp => absurd (show p ∈ ([] : List (Addr × Obj)) ++ [] from hp) (by simp)⟩
  have e1 : B.prog = X.prog := by subst hB; rfl
  have e2 : B.w = X.w := by subst hB; rfl
  have e3 : B.K = X.K := by subst hB; rfl
  have e4 : B.calm = true := by subst hB; exact hc
  have e5 : B.A = X.A := by subst hB; rfl
  have e6 : B.env = bEnv X scope s3.heap.objs.size := by subst hB; rfl
  have e7 : B.xe = FF := by subst hB; rfl
  rw [← e1, ← e2, ← e5, ← e6]
  rw [← e1, ← e2, ← e3] at T
  refine loopK hg0 (fun n s' => ∃ i H', L2.Inv B [] (wipe σ vs) H' s' ∧ tn i s'.heap ∧ (∀ b ∈ fp, H' b = none) ∧ W i n H') _ ?_ m0 ⟨0, H3, I4, st4, fun b hb => (f3 b hb).1, w0⟩
  rintro n s5 ⟨i, H5, I5, st5, n5, w5⟩
  rcases turn i n H5 w5 with ⟨stop, qq⟩ | ⟨go, Nx, hNx, step⟩
  · have td := T.done B rfl rfl rfl e4 i [] s5 _ H5 FF I5 (own I5 n5) st5 stop
    refine thnF td fun r s6 ⟨hr, I6⟩ => ?_
    subst hr hB
    have back : L2.Inv X pins σ H5 s6 := I3.call' (ch := fp) I6.os I6.base I6.hok I6.bare fun b hb => ⟨(f3 b hb).2.2.2.1, (f3 b hb).2.1, (f3 b hb).2.2.2.2.1, (f3 b hb).2.2.2.2.2⟩
    obtain ⟨m, hn, _⟩ := I6.loc
    exact done s6 m H5 back qq hn (I3.fpOk (Nat.le_refl _) I6.free)
  · have ti := T.item B rfl rfl rfl e4 i [] s5 _ H5 FF I5 (own I5 n5) st5 go
    refine thnF ti fun r s6 ⟨u, hr, h6⟩ => ?_
    subst hr
    refine thnF h6 fun _ s7 ⟨x, H7, I7, r7, y7, st7, n7⟩ => ?_
    have P7 := I7.pinned (own I7 n7) (T.obj _ _ st7)
    have a8 := pg.run _ s7 _ H7 x u _ P7 r7 (step x H7 y7)
    rw [e7] at a8
    refine thnF a8 fun _ s8 ⟨σ8, H8, I8, hw8, q8⟩ => ?_
    have a9 := pt.run _ s8 σ8 H8 _ I8 q8
    rw [e7] at a9
    refine thnF a9 fun b s9 ⟨H9, I9, q9⟩ => ?_
    have next : ∀ {s' : Shared} {τ : L2.St} {H' : Hp}, L2.Inv B ([] ++ pinsAt fp s7.heap) τ H' s' → wipe τ vs = wipe σ8 vs → Nx H' → ∃ m, m < n ∧ ∃ i H', L2.Inv B [] (wipe σ vs) H' s' ∧ tn i s'.heap ∧ (∀ b ∈ fp, H' b = none) ∧ W i m H' := fun {s' τ H'} Y e nx => by
      obtain ⟨m', hm, w'⟩ := hNx H' nx
      have held : ∀ b ∈ fp, ∀ o, s7.heap.get? b = some o → s'.heap.get? b = some o ∧ H' b = none := fun b hb o q =>
        have z := Y.pin (b, o) (List.mem_append_right _ (List.mem_append_right _ (mem_pinsAt hb q)))
        ⟨z.1, z.2.1⟩
      have ew : wipe τ vs = wipe σ vs := e.trans hw8
      refine ⟨m', hm, i + 1, H', ?_, T.keep _ _ _ st7 fun b hb o q => (held b hb o q).1, fun b hb => ?_, w'⟩
      · rw [← ew]
        exact (Y.unpinned (pins := [])).weak (wipe_length _ _) fun j v q => (wipe_some q).1
      · obtain ⟨o, q, _⟩ := T.obj _ _ st7 b hb
        exact (held b hb o q).2
    cases b with
    | false =>
      simp only [Bool.false_eq_true, if_false] at q9 ⊢
      exact next I9 rfl q9
    | true =>
      simp only [if_true] at q9 ⊢
      intro k Qk E fin
      exact pn.run _ s9 σ8 H9 D Nx k Qk E I9 q9 fun s' τ H' Y e nx => fin s' (next Y (wipe_sub hsub e) nx)
/-- the whole: Post is what the block's end owes -/
theorem many_core {pins : List (Addr × Obj)} {s : Shared} {σ : L2.St} {H : Hp} {Q : VK} {use : Option (Value → Sem Unit)} {Qf : Value → Shared → Prop} (hc : X.calm = true) (hN : X.N.Nodup) (I : L2.Inv X pins σ H s) (hi : PI X tg iter wi) (ok : BlkOk X.N X.env.scope scope own)
    (hg : ∀ (s : Shared) (H : Hp) (C : Addr) (cl : List (Str × Addr)) (fp : List Addr), PG (X.blk s H scope (compEnvC scope cl C X.env) fp) tg g) (ht : ∀ (s : Shared) (H : Hp) (C : Addr) (cl : List (Str × Addr)) (fp : List Addr), PTs (X.blk s H scope (compEnvC scope cl C X.env) fp) ifs tt)
    (hn : ∀ (s : Shared) (H : Hp) (C : Addr) (cl : List (Str × Addr)) (fp : List Addr), PCL (X.blk s H scope (compEnvC scope cl C X.env) fp) elt (⟨tg, iter, ifs, 0⟩ :: rest) scope pos 1 vs' t') (hsub : ∀ i ∈ vs', i ∈ own.map (·.2)) (hs : ∀ x, foldedSetIterable iter X.env x = pure x)
    (h : tTop wi g tt t' (own.map (·.2)) σ H Q) (done : ∀ D C s' m H', L2.Inv X pins σ H' s' → Q (.ref D) H' → s'.heap.Ns C m → FpOk X pins H' C → compPost (model X.prog X.w) X.A X.xe use Qf (.ref D) C (.ok .next) s') :
    wpAny (model X.prog X.w) X.A (comprehension (.ListComp elt (⟨tg, iter, ifs, 0⟩ :: rest) scope pos) scope X.env pos' (newList []) false (eval iter X.env) use) Qf X.xe s := by
  have frees : ∀ y ∈ scope.names, y.2 = .free → ∃ c, X.env.cells.lookup y.1 = some c := fun y hy e => (ok.free y hy e).elim (fun k => I.ok.has _ (.inl k)) fun k => I.ok.has _ (.inr k)
  refine wpAny_comprehension_free (use := use) rfl hs (closure_ok frees) ok.kind (fun y hy e => by rw [ok.uniq y hy, e]) (thn (hi.run pins s σ H _ I h) fun xv s1 hx => thn hx fun itv s2 h2 => ?_)
  obtain ⟨it, fp, tn, J, H2, rfl, I2, T, st2, f2, q⟩ := h2
  refine wpAny_newObj_type (newEnv_comp ?_) (by show 0 ≤ sizeLine; decide)
  obtain ⟨D, hD⟩ : ∃ D, D = s2.heap.objs.size := ⟨_, rfl⟩
  rw [← hD]
  obtain ⟨W, ⟨m0, w0⟩, turn⟩ := q D (I2.hok.fresh (Nat.le_of_eq hD.symm))
  obtain ⟨s3, hs3⟩ : ∃ s3 : Shared, s3 = { s2 with heap := s2.heap.push { cls := .type "list", data := .seq ([] : List Value).toArray } } := ⟨_, rfl⟩
  rw [← hs3]
  have hp : s3.heap = s2.heap.push { cls := .type "list", data := .seq ([] : List Value).toArray } := by rw [hs3]
  have I3 : L2.Inv X pins σ (upd H2 D (.lst [])) s3 := by
    subst hs3
    exact I2.laid (t' := s2.toks) (fun b o e => Heap.get?_push_of_some _ e) (Nat.le_of_eq hD.symm) ⟨Nat.zero_le _, [], 0, .nil, by subst hD; exact Heap.get?_push_size _ rfl⟩
  have f3 : ∀ b ∈ fp, FpOk X pins (upd H2 D (.lst [])) b ∧ b < s3.heap.objs.size := fun b hb => by
    obtain ⟨o, e, _⟩ := T.obj _ _ st2 b hb
    have lt := Heap.lt_size e
    refine ⟨⟨?_, (f2 b hb).2⟩, by rw [hp, Heap.size_push]; exact Nat.lt_succ_of_lt lt⟩
    rw [upd_ne (by rw [hD]; exact Nat.ne_of_lt lt)]
    exact (f2 b hb).1
  have st3 : tn 0 s3.heap := T.keep _ _ _ st2 fun b _ o e => by rw [hp]; exact Heap.get?_push_of_some _ e
  have I4 := block_start I3 ok hN f3
  have st4 : tn 0 (pushCells (s3.heap.push { cls := .type "dict", data := .dict #[] }) scope.names) := T.keep _ _ _ st3 fun b _ o e => pushCells_keeps _ _ _ _ (Heap.get?_push_of_some _ e)
  have lp := top_loop (Q := Q) (D := D) (W := W) (Post := compPost (model X.prog X.w) X.A X.xe use Qf (.ref D) s3.heap.objs.size (.ok .next)) hc I3 T (fun b hb => (f3 b hb).1) w0 turn (hg _ _ _ _ _) (ht _ _ _ _ _) (hn _ _ _ _ _) hsub I4 st4 rfl (fun s' m H' => done D _ s' m H')
  refine startK rfl ?_ (T.self X.A 0 _ _ _ st4 ?_)
  all_goals
    refine codeAny_mono lp fun r s' hr => ?_
    cases r with
    | error e => exact hr.elim
    | ok f =>
      cases f with
      | next => exact hr
      | _ => exact hr.elim
theorem pe_many (hc : X.calm = true) (hN : X.N.Nodup) (hi : PI X tg iter wi) (ok : BlkOk X.N X.env.scope scope own)
    (hg : ∀ (s : Shared) (H : Hp) (C : Addr) (cl : List (Str × Addr)) (fp : List Addr), PG (X.blk s H scope (compEnvC scope cl C X.env) fp) tg g) (ht : ∀ (s : Shared) (H : Hp) (C : Addr) (cl : List (Str × Addr)) (fp : List Addr), PTs (X.blk s H scope (compEnvC scope cl C X.env) fp) ifs tt)
    (hn : ∀ (s : Shared) (H : Hp) (C : Addr) (cl : List (Str × Addr)) (fp : List Addr), PCL (X.blk s H scope (compEnvC scope cl C X.env) fp) elt (⟨tg, iter, ifs, 0⟩ :: rest) scope pos 1 vs' t') (hsub : ∀ i ∈ vs', i ∈ own.map (·.2)) (hs : ∀ x, foldedSetIterable iter X.env x = pure x) :
    PE X (.ListComp elt (⟨tg, iter, ifs, 0⟩ :: rest) scope pos) (tTop wi g tt t' (own.map (·.2))) := by
  refine ⟨fun pins s σ H Q I h => ?_⟩
  rw [eval_ListComp]
  refine many_core hc hN I hi ok hg ht hn hsub hs h fun D C s' m H' I' q hns f => ⟨m, hns, fun h2 sb => ?_⟩
  obtain ⟨f0, f1, _, f3, f4, f5⟩ := f
  exact ⟨.ref D, H', I'.turned (t' := s'.toks) (fun b o hb e => (sb.2 b hb).trans e) f0 f1 f3 f4 f5, rfl, q⟩
end
end DD

/-! Comprehensions of several fors upon data: the list that grows is a cell. -/
namespace DD
open PySem PySem.Spec PyProof.Rows L2
def compO (g : Gm) (chk : Sto → Bool) (t : Tx) (next : Env → Sto → Option Sto) (ρ : Env) : List D → Sto → Option Sto
  | [], S => if chk S = true then some S else none
  | d :: ds, S => if chk S = true then (g d ρ).bind fun ρ1 => (t ρ1 S).bind fun b => if b.1 = true then (next ρ1 b.2).bind fun S2 => compO g chk t next ρ ds S2 else compO g chk t next ρ ds b.2 else none
/-- the element is put behind the list at n -/
def lastN (el : Ex) (n : Nat) (ρ : Env) (S : Sto) : Option Sto := (el ρ S).bind fun y => (appD (.loc n) y.1 y.2).bind fun z => some z.2
/-- a for within -/
def innerN (it : Im) (g : Gm) (t : Tx) (vs : List Nat) (next : Nat → Env → Sto → Option Sto) (n : Nat) (ρ : Env) (S : Sto) : Option Sto := (it ρ S).bind fun p => compO g p.2.1 t (next n) (wipeE ρ vs) p.1 p.2.2
def mCompN (vs : List Nat) (it : Im) (g : Gm) (t : Tx) (next : Nat → Env → Sto → Option Sto) : Ex := fun ρ S => (it ρ S).bind fun p => (compO g p.2.1 t (next p.2.2.length) (wipeE ρ vs) p.1 (p.2.2 ++ [.lst []])).bind fun S2 => some (.loc p.2.2.length, S2)
/-- .. as it stands in the heap -/
def tN (K : PySem.W.Frag) (next : Nat → Env → Sto → Option Sto) : L2.St → Hp → Addr → (Hp → Prop) → Prop := fun σ H D R => ∃ ρ S m n S', EnvR K H m ρ σ ∧ StR K H m S ∧ m[n]? = some D ∧ next n ρ S = some S' ∧ ∀ H' m', Ext H m H' m' → StR K H' m' S' → R H'
abbrev DN (B : Cx) (elt : Expr) (gens : List Comprehension) (scope : Scope) (pos : Pos) (d : Nat) (vs : List Nat) (next : Nat → Env → Sto → Option Sto) : Prop := PCL B elt gens scope pos d vs (tN B.K next)
theorem pcw {B : Cx} {elt : Expr} {gens : List Comprehension} {scope : Scope} {pos : Pos} {d : Nat} {vs : List Nat} {t t' : L2.St → Hp → Addr → (Hp → Prop) → Prop} (h : PCL B elt gens scope pos d vs t) (w : ∀ σ H D R, t' σ H D R → t σ H D R) : PCL B elt gens scope pos d vs t' :=
  ⟨fun pins s σ H D R k Qk E I q fin => h.run pins s σ H D R k Qk E I (w _ _ _ _ q) fin⟩
section
variable {B X : Cx} {elt tg iter : Expr} {ifs : List Expr} {gens rest : List Comprehension} {scope : Scope} {pos : Pos} {d : Nat} {vs vs' : List Nat} {fe : Ex} {fi : Im} {gm : Gm} {tt : Tx} {next : Nat → Env → Sto → Option Sto}
theorem dn_last (hn : gens[d]? = none) (hx : B.xe = FF) (he : DE B elt fe) : DN B elt gens scope pos d vs (lastN fe) := pcw (pcl_end hn hx he) fun σ H D R h => by
  obtain ⟨ρ, S, m, n, S', er, sr, hD, hf, q⟩ := h
  obtain ⟨y, h1, hf⟩ := obind hf
  obtain ⟨z, h2, hf⟩ := obind hf
  cases hf
  refine ⟨ρ, S, m, y.1, y.2, er, sr, h1, fun v H1 m1 x1 s1 r1 => ?_⟩
  simp only [appD] at h2
  cases hc : y.2[n]? with
  | none => rw [hc] at h2; cases h2
  | some c =>
    rw [hc] at h2
    cases c with
    | dic _ => cases h2
    | lst ds =>
      simp only at h2
      by_cases hl : ds.length < sizeLine
      · rw [if_pos hl] at h2
        cases h2
        have hD1 := x1.pre n D hD
        obtain ⟨a, us, ea, hm, e1, rs⟩ := s1.lst (.loc hD1) hc
        cases ea
        obtain ⟨q1, q2⟩ := putL s1 hm (rs.app (.cons r1 .nil))
        exact ⟨us, e1, by rw [← rs.length]; exact hl, q _ m1 (x1.trans q1) q2⟩
      · rw [if_neg hl] at h2; cases h2

/-- the turns of a for, upon data -/
theorem turns_rep {K : PySem.W.Frag} {J : It} {σ : L2.St} {H1 : Hp} {m1 : List Addr} {n : Nat} {D : Addr} {its : List DD.D} {chk : Sto → Bool} {ρ : Env} {S1 Sf : Sto} {R : Hp → Prop} (wk : Walks K J H1 m1 its chk) (er : EnvR K H1 m1 ρ σ) (s1 : StR K H1 m1 S1)
    (fin : ∀ H' m', Ext H1 m1 H' m' → StR K H' m' Sf → m'[n]? = some D → R H') (i c : Nat) (H' : Hp)
    (w : ∃ S' m', StR K H' m' S' ∧ Ext H1 m1 H' m' ∧ m'[n]? = some D ∧ i + c = its.length ∧ compO gm chk tt (next n) (wipeE ρ vs) (its.drop i) S' = some Sf) :
    (J.stop i H' ∧ R H') ∨ (J.go i H' ∧ ∃ Nx : Hp → Prop, (∀ H2, Nx H2 → ∃ c', c' < c ∧ ∃ S' m', StR K H2 m' S' ∧ Ext H1 m1 H2 m' ∧ m'[n]? = some D ∧ (i + 1) + c' = its.length ∧ compO gm chk tt (next n) (wipeE ρ vs) (its.drop (i + 1)) S' = some Sf) ∧
      ∀ x H2, J.yld i H' x H2 → tGm vs K gm x (wipe σ vs) H2 fun σ2 H3 => wipe σ2 vs = wipe σ vs ∧ tT K tt σ2 H3 fun b H4 => if b = true then tN K next σ2 H4 D Nx else Nx H4) := by
  obtain ⟨S', m', sr, x', hD, hl, hf⟩ := w
  by_cases hlt : i < its.length
  · rw [List.drop_eq_getElem_cons hlt] at hf
    have hck : chk S' = true := by
      by_cases q : chk S' = true
      · exact q
      · simp only [compO, if_neg q] at hf; cases hf
    simp only [compO, if_pos hck] at hf
    obtain ⟨ρ1, g1, hf⟩ := obind hf
    obtain ⟨b, b1, hf⟩ := obind hf
    obtain ⟨hgo, hyl⟩ := (wk H' m' S' i x' sr hck).1 _ (List.getElem?_eq_getElem hlt)
    refine .inr ⟨hgo, fun H2 => ∃ S2 m2, StR K H2 m2 S2 ∧ Ext H1 m1 H2 m2 ∧ m2[n]? = some D ∧ compO gm chk tt (next n) (wipeE ρ vs) (its.drop (i + 1)) S2 = some Sf, fun H2 ⟨S2, m2, a1, a2, a3, a4⟩ => ⟨c - 1, by omega, S2, m2, a1, a2, a3, by omega, a4⟩, fun x H2 y => ?_⟩
    obtain ⟨m2, x2, s2, r2⟩ := hyl x H2 y
    have hD2 := x2.pre n D hD
    refine ⟨wipeE ρ vs, m2, S', _, ρ1, wipeE_rep ((er.mono s1 x').mono sr x2) vs, s2, r2, g1, fun σ3 e3 w3 => ⟨w3.trans wipe_two, ρ1, S', m2, b.1, b.2, e3, s2, b1, fun H4 m4 x4 s4 => ?_⟩⟩
    have xx := (x'.trans x2).trans x4
    have hD4 := x4.pre n D hD2
    cases hb : b.1 with
    | false =>
      rw [hb] at hf
      simp only [Bool.false_eq_true, if_false] at hf ⊢
      exact ⟨b.2, m4, s4, xx, hD4, hf⟩
    | true =>
      rw [hb] at hf
      simp only [if_true] at hf ⊢
      obtain ⟨S2, g2, hf⟩ := obind hf
      exact ⟨ρ1, b.2, m4, n, S2, e3.mono s2 x4, s4, hD4, g2, fun H5 m5 x5 s5 => ⟨S2, m5, s5, xx.trans x5, x5.pre n D hD4, hf⟩⟩
  · rw [List.drop_eq_nil_of_le (by omega)] at hf
    have hck : chk S' = true := by
      by_cases q : chk S' = true
      · exact q
      · simp only [compO, if_neg q] at hf; cases hf
    simp only [compO, if_pos hck] at hf
    cases hf
    exact .inl ⟨(wk H' m' _ i x' sr hck).2 (by omega), fin H' m' x' sr hD⟩
theorem dn_next (hg0 : gens[d]? = some ⟨tg, iter, ifs, 0⟩) (hx : B.xe = FF) (hc : B.calm = true) (hi : DI B tg iter fi) (hg : DG B vs tg gm) (ht : DTs B ifs tt) (hn : DN B elt gens scope pos (d + 1) vs' next) (hsub : ∀ i ∈ vs', i ∈ vs)
    (hs : ∀ x, foldedSetIterable iter B.env x = pure x := by intro _; rfl) : DN B elt gens scope pos d vs (innerN fi gm tt vs next) := pcw (pcl_step hg0 hx hc hi hg ht hn hsub hs) fun σ H D R h => by
  obtain ⟨ρ, S, m, n, Sf, er, sr, hD, hf, q⟩ := h
  obtain ⟨p, h1, hf⟩ := obind hf
  refine ⟨ρ, S, m, p.1, p.2.1, p.2.2, er, sr, h1, fun J H1 m1 x1 s1 wk => ?_⟩
  exact ⟨fun i c H' => ∃ S' m', StR B.K H' m' S' ∧ Ext H1 m1 H' m' ∧ m'[n]? = some D ∧ i + c = p.1.length ∧ compO gm p.2.1 tt (next n) (wipeE ρ vs) (p.1.drop i) S' = some Sf, ⟨p.1.length, p.2.2, m1, s1, Ext.refl _ _, x1.pre n D hD, by omega, hf⟩,
    turns_rep wk (er.mono sr x1) s1 fun H' m' x' s' _ => q H' m' (x1.trans x') s'⟩
theorem de_compN {own : List (Str × Nat)} (hv : own.map (·.2) = vs) (hc : X.calm = true) (hN : X.N.Nodup) (hi : DI X tg iter fi) (ok : blkC X.N X.env.scope scope own = true)
    (hg : ∀ (s : Shared) (H : Hp) (C : Addr) (cl : List (Str × Addr)) (fp : List Addr), DG (X.blk s H scope (compEnvC scope cl C X.env) fp) vs tg gm) (ht : ∀ (s : Shared) (H : Hp) (C : Addr) (cl : List (Str × Addr)) (fp : List Addr), DTs (X.blk s H scope (compEnvC scope cl C X.env) fp) ifs tt)
    (hn : ∀ (s : Shared) (H : Hp) (C : Addr) (cl : List (Str × Addr)) (fp : List Addr), DN (X.blk s H scope (compEnvC scope cl C X.env) fp) elt (⟨tg, iter, ifs, 0⟩ :: rest) scope pos 1 vs' next) (hsub : ∀ i ∈ vs', i ∈ vs) (hs : ∀ x, foldedSetIterable iter X.env x = pure x := by intro _; rfl) :
    DE X (.ListComp elt (⟨tg, iter, ifs, 0⟩ :: rest) scope pos) (mCompN vs fi gm tt next) := by
  subst hv
  refine pew (pe_many (t' := tN X.K next) (g := tGm _ X.K gm) (tt := tT X.K tt) hc hN hi (blkOk_by ok) (fun s H C cl fp => hg s H C cl fp) (fun s H C cl fp => ht s H C cl fp) (fun s H C cl fp => hn s H C cl fp) hsub hs) fun σ H Q h => ?_
  obtain ⟨ρ, S, m, dd, Se, er, sr, hf, q⟩ := h
  obtain ⟨p, h1, hf⟩ := obind hf
  obtain ⟨Sf, h2, hf⟩ := obind hf
  cases hf
  refine ⟨ρ, S, m, p.1, p.2.1, p.2.2, er, sr, h1, fun J H1 m1 x1 s1 wk D hD => ?_⟩
  have x0 : Ext H1 m1 (upd H1 D (.lst [])) m1 := Ext.new1 hD
  have a0 : StR X.K (upd H1 D (.lst [])) (m1 ++ [D]) (p.2.2 ++ [.lst []]) := (s1.new1 hD).adopt (s1.out hD) ⟨[], upd_same, .nil⟩
  have xa : Ext H1 m1 (upd H1 D (.lst [])) (m1 ++ [D]) := ⟨fun k b e => by rw [List.getElem?_append_left (List.getElem?_eq_some_iff.mp e).1]; exact x0.pre k b e, x0.keep, fun b hb hnb => by
    rcases List.mem_append.mp hb with z | z
    · exact x0.new b z hnb
    · rw [List.mem_singleton.mp z]; exact hD⟩
  have hn : (m1 ++ [D])[p.2.2.length]? = some D := by rw [← s1.len, List.getElem?_concat_length]
  exact ⟨fun i c H' => ∃ S' m', StR X.K H' m' S' ∧ Ext H1 m1 H' m' ∧ m'[p.2.2.length]? = some D ∧ i + c = p.1.length ∧ compO gm p.2.1 tt (next p.2.2.length) (wipeE ρ (own.map (·.2))) (p.1.drop i) S' = some Se, ⟨p.1.length, _, _, a0, xa, hn, by omega, h2⟩,
    turns_rep wk (er.mono sr x1) s1 fun H' m' x' s' e => q (.ref D) H' m' (x1.trans x') s' (.loc e)⟩
@[simp] theorem w_compN {ρ : Env} {S : Sto} {E : D × Sto → Prop} {it : Im} {g : Gm} {t : Tx} : wO (mCompN vs it g t next ρ S) E ↔ wO (it ρ S) fun p => wO (compO g p.2.1 t (next p.2.2.length) (wipeE ρ vs) p.1 (p.2.2 ++ [.lst []])) fun S2 => E (.loc p.2.2.length, S2) := by unfold mCompN; simp
end
end DD

/-! what agreement_error finds in typed agreements: nothing, if they are right. -/
namespace DD
open PySem L2
variable {n h : Nat} {W ks : List Str}
theorem uniqK_id : ∀ {kss : List (List Key)}, kss.Nodup → uniqK kss = kss
  | [], _ => rfl
  | k :: kss, hd => by
    obtain ⟨h1, h2⟩ := List.nodup_cons.mp hd
    rw [uniqK, uniqK_id h2, if_neg fun z => h1 (hasK_iff.mp z)]
def WOk (W : List Str) : Prop := ∀ x ∈ W, isWord (.str x) = true
theorem v_pair {p : Pr} (h1 : p.1 < n) (h2 : p.1 ≠ h) (h3 : isWord (.str p.2) = true) : isPair h n (prD p) = true := by
  simp only [prD, isPair, Bool.and_eq_true, decide_eq_true_eq]
  exact ⟨⟨⟨by omega, by omega⟩, by omega⟩, h3⟩
theorem v_pairs {ps : List Pr} {m : Nat} (hW : WOk W) (hp : PairsOk n h W ps) (hl : ps.length ≤ m) : arePairs m h n (.tup (ps.map prD)) = true := by
  simp only [arePairs, Bool.and_eq_true, decide_eq_true_eq, List.all_eq_true, List.length_map]
  refine ⟨by omega, fun d hd => ?_⟩
  obtain ⟨p, hp', rfl⟩ := List.mem_map.mp hd
  obtain ⟨h1, h2, h3⟩ := hp.2 p hp'
  exact v_pair h1 h2 (hW _ h3)
theorem mapO_keys (ps : List Pr) : mapO keysL (ps.map prD) = some (ps.map fun p => [.inl (p.1 : Int), .inr p.2]) := by
  induction ps with
  | nil => rfl
  | cons p ps ih =>
    rw [List.map_cons, show mapO keysL (prD p :: ps.map prD) = (keysL (prD p)).bind fun y => (mapO keysL (ps.map prD)).bind fun ys => some (y :: ys) from rfl, ih, prD, keys_P]
    rfl
theorem v_uniq {ps : List Pr} (hd : ps.Nodup) (hl : ps.length < 64) : uniqB (ps.map prD) = true := by
  have e : setKeys (.tup (ps.map prD)) = some (ps.map fun p => [.inl (p.1 : Int), .inr p.2]) := by
    simp only [setKeys]
    rw [if_pos (by rw [List.length_map]; exact hl), mapO_keys]
  unfold uniqB
  rw [e]
  have nd : (ps.map fun p => ([.inl (p.1 : Int), .inr p.2] : List Key)).Nodup := by
    rw [List.nodup_iff_pairwise_ne, List.pairwise_map]
    refine hd.imp fun {a b} q z => q ?_
    simp only [List.cons.injEq, Sum.inl.injEq, Sum.inr.injEq, and_true] at z
    exact Prod.ext (by have := z.1; omega) z.2
  simp only [uniqK_id nd, List.length_map, decide_true]
theorem v_leads {st on : Nat} (h1 : st < on) (h2 : on < ks.length) (h3 : leadK (ks.getD st "") (ks.getD on "") = true) : leadsB (ks.map D.str) (.int st) (.int on) = true := by
  have e1 : (ks.map D.str)[st]? = some (.str (ks.getD st "")) := by
    rw [List.getElem?_map, List.getD_eq_getElem?_getD, List.getElem?_eq_getElem (by omega)]
    rfl
  have e2 : (ks.map D.str)[on]? = some (.str (ks.getD on "")) := by
    rw [List.getElem?_map, List.getD_eq_getElem?_getD, List.getElem?_eq_getElem (by omega)]
    rfl
  simp only [leadsB, Int.toNat_natCast, e1, e2, h3, Bool.and_true, Bool.and_eq_true, decide_eq_true_eq, List.length_map]
  omega
theorem v_row {r : Rw} (hW : WOk W) (hr : RwOk n h W ks r) : isRow (ks.map D.str) h n (rwD r) = true := by
  obtain ⟨a1, a2, a3, a4, a5, a6, a7, a8⟩ := hr
  have p1 := v_pairs (m := 4) hW a4 a5
  have p2 := v_pairs (m := 6) hW a7 a8
  simp only [rwD, isRow, items, v_leads a1 a2 a3, isBl, rising_up a6, v_uniq a7.1 (by omega), Bool.true_and, Bool.and_true, Bool.and_eq_true]
  exact ⟨p1, p2⟩
theorem v_rows (hW : WOk W) : ∀ (k : Nat) (rs : List Rw), k + rs.length ≤ 12 → (∀ r ∈ rs, RwOk n h W ks r) → rowsErr (ks.map D.str) h n k (rs.map rwD) = .non
  | _, [], _, _ => rfl
  | k, r :: rs, hl, hr => by
    rw [List.length_cons] at hl
    rw [List.map_cons, rowsErr, if_neg (by rw [v_row hW (hr r (by simp))]; simp; omega)]
    exact v_rows hW (k + 1) rs (by omega) fun r q => hr r (by simp [q])
theorem v_book {b : Bk} (hW : WOk W) (hb : BkOk n h W b) : bookErr h n (bkD b) = .non := by
  obtain ⟨k1, k8, kf, k0, r12, hr⟩ := hb
  have kk : kindsB (.tup (b.ks.map D.str)) = true := by
    have e : (b.ks.map D.str).all isKind = true := by
      rw [List.all_map, List.all_eq_true]
      intro x hx
      exact decide_eq_true (kf x hx)
    simp only [kindsB, e, List.length_map, decide_eq_true k1, decide_eq_true k8, Bool.true_and]
    cases hk : b.ks with
    | nil => rw [hk] at k1; simp at k1
    | cons x xs =>
      rw [hk] at k0
      simp only [List.map_cons, decide_eq_true_eq, D.str.injEq]
      simpa using k0
  simp only [bkD, bookErr, if_pos kk]
  exact v_rows hW 0 b.rs (by omega) hr
theorem v_books (hW : WOk W) : ∀ (i : Nat) (bs : List Bk), (∀ j b, bs[j]? = some b → BkOk n (i + j) W b) → booksErr n i (bs.map bkD) = .non
  | _, [], _ => rfl
  | i, b :: bs, hb => by
    have e := v_book hW (hb 0 b rfl)
    rw [Nat.add_zero] at e
    rw [List.map_cons, booksErr, if_pos e]
    exact v_books hW (i + 1) bs fun j b q => by rw [show i + 1 + j = i + (j + 1) by omega]; exact hb (j + 1) b q
theorem v_ag {a : Ag} (hW : WOk W) (h2 : 2 ≤ a.length) (h4 : a.length ≤ 4) (hb : ∀ j b, a[j]? = some b → BkOk a.length j W b) : faultD (agD a) = .non := by
  simp only [agD, faultD, List.length_map]
  rw [if_pos ⟨h2, h4⟩]
  exact v_books hW 0 a fun j b q => by rw [Nat.zero_add]; exact hb j b q
def SF (W : List Str) : Prop := ∀ x ∈ W, strF x
theorem RwOk.fF {r : Rw} (hr : RwOk n h W ks r) (hW : SF W) (hn : n ≤ 4) (hk : ks.length ≤ 8) : RwF r := by
  obtain ⟨h1, h2, h3, h4, h5, h6, h7, h8⟩ := hr
  exact ⟨by omega, by omega, by omega, fun p hp => ⟨by have := (h4.2 p hp).1; omega, hW _ (h4.2 p hp).2.2⟩, h8, fun p hp => ⟨by have := (h7.2 p hp).1; omega, hW _ (h7.2 p hp).2.2⟩⟩
theorem fw_bkW {b : Bk} (hb : BkOk n h W b) (hW : SF W) (hn : n ≤ 4) : Fw 3730 5 (bkD b) := by
  obtain ⟨h1, h2, h3, h4, h5, h6⟩ := hb
  have e1 : FL 88 0 (b.ks.map D.str) := FL.most (m := 8) (w := 10) (fun d hd => by
    obtain ⟨p, hp, rfl⟩ := List.mem_map.mp hd
    exact fwS (four_F (h3 p hp))) (by simpa using h2)
  have e2 : FL 3624 3 (b.rs.map rwD) := FL.most (m := 12) (w := 301) (fun d hd => by
    obtain ⟨p, hp, rfl⟩ := List.mem_map.mp hd
    exact fw_rw ((h6 p hp).fF hW hn h2)) (by simpa using h5)
  exact ((FL.cons (e1.tup.up (Nat.le_refl _) (by omega)) (FL.one e2.tup)).tup).up (by omega) (by omega)
theorem fw_agW {a : Ag} (h4 : a.length ≤ 4) (hn : n ≤ 4) (hW : SF W) (hb : ∀ j b, a[j]? = some b → BkOk n j W b) : Fw 14924 6 (agD a) := (FL.most (m := 4) (w := 3730) (fun d hd => by
  obtain ⟨b, hb', rfl⟩ := List.mem_map.mp hd
  obtain ⟨j, hj⟩ := List.mem_iff_getElem?.mp hb'
  exact fw_bkW (hb j b hj) hW hn) (by simpa using h4)).tup
end DD

namespace K49
open PySem PySem.Spec PyProof.Rows L2 DD
def top (i : Nat) : Stmt := PySem.Challenge.pw_leftstanding_k49_whole_mended_book_by_bo.main.body.getD i (.Pass ⟨0, 0, 0, 0⟩)
abbrev s_agreement_error : Stmt := top 9
abbrev s_is_an_integer : Stmt := top 10
abbrev s_is_place : Stmt := top 11
abbrev s_is_tuple : Stmt := top 12
abbrev s_is_word : Stmt := top 13
abbrev s_is_ascending : Stmt := top 14
abbrev s__book_error : Stmt := top 15
abbrev s__are_kinds : Stmt := top 16
abbrev s__is_row : Stmt := top 17
abbrev s__leads : Stmt := top 18
abbrev s__are_pairs : Stmt := top 19
abbrev s__is_pair : Stmt := top 20
abbrev s_mended : Stmt := top 26
abbrev s__words : Stmt := top 27
abbrev s__mended_book : Stmt := top 28
abbrev s__with_letters : Stmt := top 29
abbrev s__check_bounds : Stmt := top 30
abbrev s__law_bag : Stmt := top 32
abbrev s__law_take : Stmt := top 33
abbrev s__law_pick : Stmt := top 34
abbrev s__law_mixed : Stmt := top 35
abbrev s__law_pairs : Stmt := top 36
abbrev s__law_row_drawn : Stmt := top 37
abbrev s__law_book_drawn : Stmt := top 38
abbrev s__law_mend_book : Stmt := top 39
abbrev s__law_mend : Stmt := top 40
abbrev s__law_wide_book : Stmt := top 41
abbrev s_law : Stmt := top 42
/-- the built-ins that are called by their names -/
structure Bt (mg : Str → Option Value) : Prop where
  h_abs : mg "abs" = none
  h_all : mg "all" = none
  h_any : mg "any" = none
  h_bool : mg "bool" = none
  h_enumerate : mg "enumerate" = none
  h_int : mg "int" = none
  h_isinstance : mg "isinstance" = none
  h_len : mg "len" = none
  h_list : mg "list" = none
  h_range : mg "range" = none
  h_repr : mg "repr" = none
  h_set : mg "set" = none
  h_sorted : mg "sorted" = none
  h_str : mg "str" = none
  h_tuple : mg "tuple" = none
  h_zip : mg "zip" = none
def tab_ONTO_KINDS : List (Str × D) := [("open", .tup [.str "open", .str "yes", .str "off"]), ("yes", .tup [.str "yes", .str "done", .str "off"]), ("done", .tup []), ("off", .tup [])]
structure Ct (K : PySem.W.Frag) (wo : World) (mg : Str → Option Value) : Prop where
  sys : SysK K
  k_FIRST_KINDS : Kv K mg "FIRST_KINDS" (.tup [.str "open", .str "yes"])
  k_MAX_HOUSES : Kv K mg "MAX_HOUSES" (.int 4)
  k_MAX_ROWS : Kv K mg "MAX_ROWS" (.int 12)
  k_MAX_SENDS : Kv K mg "MAX_SENDS" (.int 6)
  k_MAX_SIGNS : Kv K mg "MAX_SIGNS" (.int 6)
  k_MAX_STATES : Kv K mg "MAX_STATES" (.int 8)
  k_MAX_TAKES : Kv K mg "MAX_TAKES" (.int 4)
  t_ONTO_KINDS : KTab K wo mg "ONTO_KINDS" tab_ONTO_KINDS
/-! ### is_tuple -/
def m_is_tuple : Fn := mkFn 3 3 (mRet (mAndV (m1 (isiD "tuple") (mCons (mV 0) mNil)) (mChain leD leD (mV 1) (m1 lenD (mCons (mV 0) mNil)) (mV 2))))
def z_is_tuple : Fn := gcZ m_is_tuple
theorem sc_is_tuple : FnScope ["value", "least", "most"] ["value", "least", "most"] (defScope s_is_tuple) := ⟨rfl, rfl, rfl, by decide +kernel, rfl, by decide +kernel, by decide +kernel⟩
theorem ok_is_tuple {P : Program} {w : World} {K : PySem.W.Frag} {mg : Str → Option Value} {base : Heap} (B : Bt mg) (C : Ct K w mg) {f : Addr} {fd : FuncData} (F : Fun K "is_tuple" "is_tuple" s_is_tuple f fd) : FnG P w K mg base 1 f fd ["value", "least", "most"] m_is_tuple :=
  fn_g F sc_is_tuple rfl rfl fun cdv A outer s H hr => by
    have nd := sc_is_tuple.nd
    exact (dss_one (ds_ret (de_and (de_isi cls_tuple (by rfl) B.h_isinstance (by rfl) B.h_tuple (by decide +kernel) (de_v 0)) (de_one (de_chain op_le od_cmp op_le od_cmp (de_v 1) (de_len (by rfl) B.h_len (da_cons (de_v 0) da_nil)) (de_v 2))))))
/-! ### _are_kinds -/
def m__are_kinds : Fn := mkFn 1 2 (mSeq (mIte (mNot (mB (mCall z_is_tuple (mCons (mV 0) (mCons (mC (.int 1)) (mCons (mC (.int 8)) mNil)))))) (mRet (mC (.bl false))) mSkip)
  (mSeq (mIte (mNot (mB (m1 allD (mCons (mCompX true [1] (mI (mV 0)) (gN 1) mYes (mAndV (m1 (isiD "str") (mCons (mV 1) mNil)) (mInTab tab_ONTO_KINDS (mV 1)))) mNil)))) (mRet (mC (.bl false))) mSkip)
  (mRet (m2 inD (m2 ixD (mV 0) (mC (.int 0))) (mC (.tup [.str "open", .str "yes"]))))))
def z__are_kinds : Fn := gcZ m__are_kinds
theorem sc__are_kinds : FnScope ["kinds", "told"] ["kinds"] (defScope s__are_kinds) := ⟨rfl, rfl, rfl, by decide +kernel, rfl, by decide +kernel, by decide +kernel⟩
theorem ok__are_kinds {P : Program} {w : World} {K : PySem.W.Frag} {mg : Str → Option Value} {base : Heap} (B : Bt mg) (C : Ct K w mg) (k_is_tuple : Kn P w K mg base 1 "is_tuple" s_is_tuple ["value", "least", "most"] m_is_tuple) {f : Addr} {fd : FuncData} (F : Fun K "_are_kinds" "_are_kinds" s__are_kinds f fd) : FnG P w K mg base 2 f fd ["kinds"] m__are_kinds :=
  fn_g F sc__are_kinds rfl rfl fun cdv A outer s H hr => by
    have nd := sc__are_kinds.nd
    exact (dss_cons (ds_if (dt_not (dt_val (de_z k_is_tuple hr (by decide) (by rfl) (da_cons (de_v 0) (da_cons (de_int) (da_cons (de_kv C.k_MAX_STATES (by rfl)) da_nil)))))) (dss_one (ds_ret (de_bl))) dss_nil)
    (dss_cons (ds_if (dt_not (dt_val (de_all hr.calm (by rfl) B.h_all (da_cons (de_compX true [("told", 1)] [1] rfl hr.calm nd (di_seq (de_v 0)) (by kernel_rfl) (fun _ _ _ _ _ => (dg_name [1] 1 nd rfl (by first | exact Or.inl rfl | exact Or.inr rfl) (by decide))) (fun _ _ _ _ _ => dts_nil) (fun _ _ _ _ _ => (de_and (de_isi cls_str (by rfl) B.h_isinstance (by rfl) B.h_str (by decide +kernel) (de_v 1)) (de_one (de_inTab C.t_ONTO_KINDS (de_v 1) (by rfl)))))) da_nil)))) (dss_one (ds_ret (de_bl))) dss_nil)
    (dss_one (ds_ret (de_in hr (de_ix hr (de_v 0) (de_int)) (de_kv C.k_FIRST_KINDS (by rfl)))))))
/-! ### is_ascending -/
def m_is_ascending : Fn := mkFn 1 3 (mRet (m1 allD (mCons (mCompX true [1, 2] (mZip (mCons (mV 0) (mCons (mSlX true (mV 0) (mP (mC (.int 1))) mNoP) mNil))) (gT (gsCons (gN 1) (gsCons (gN 2) gsNil))) mYes (m2 ltA (mV 1) (mV 2))) mNil)))
def z_is_ascending : Fn := gcZ m_is_ascending
theorem sc_is_ascending : FnScope ["items", "one", "other"] ["items"] (defScope s_is_ascending) := ⟨rfl, rfl, rfl, by decide +kernel, rfl, by decide +kernel, by decide +kernel⟩
theorem ok_is_ascending {P : Program} {w : World} {K : PySem.W.Frag} {mg : Str → Option Value} {base : Heap} (B : Bt mg) (C : Ct K w mg) {f : Addr} {fd : FuncData} (F : Fun K "is_ascending" "is_ascending" s_is_ascending f fd) : FnG P w K mg base 1 f fd ["items"] m_is_ascending :=
  fn_g F sc_is_ascending rfl rfl fun cdv A outer s H hr => by
    have nd := sc_is_ascending.nd
    exact (dss_one (ds_ret (de_all hr.calm (by rfl) B.h_all (da_cons (de_compX true [("one", 1), ("other", 2)] [1, 2] rfl hr.calm nd (di_zip (by rfl) B.h_zip (da_cons (de_v 0) (da_cons (de_slX true (de_v 0) (dp_some (de_int)) dp_none) da_nil))) (by kernel_rfl) (fun _ _ _ _ _ => (dg_tup (RG.blk hr).calm (dgs_cons (dg_name [1, 2] 1 nd rfl (by first | exact Or.inl rfl | exact Or.inr rfl) (by decide)) (dgs_cons (dg_name [1, 2] 2 nd rfl (by first | exact Or.inl rfl | exact Or.inr rfl) (by decide)) (dgs_nil [1, 2]))))) (fun _ _ _ _ _ => dts_nil) (fun _ _ _ _ _ => (de_ltA (RG.blk hr) (de_v 1) (de_v 2)))) da_nil))))
/-! ### is_an_integer -/
def m_is_an_integer : Fn := mkFn 1 1 (mRet (mAndV (m1 (isiD "int") (mCons (mV 0) mNil)) (mNotV (m1 (isiD "bool") (mCons (mV 0) mNil)))))
def z_is_an_integer : Fn := gcZ m_is_an_integer
theorem sc_is_an_integer : FnScope ["value"] ["value"] (defScope s_is_an_integer) := ⟨rfl, rfl, rfl, by decide +kernel, rfl, by decide +kernel, by decide +kernel⟩
theorem ok_is_an_integer {P : Program} {w : World} {K : PySem.W.Frag} {mg : Str → Option Value} {base : Heap} (B : Bt mg) (C : Ct K w mg) {f : Addr} {fd : FuncData} (F : Fun K "is_an_integer" "is_an_integer" s_is_an_integer f fd) : FnG P w K mg base 1 f fd ["value"] m_is_an_integer :=
  fn_g F sc_is_an_integer rfl rfl fun cdv A outer s H hr => by
    have nd := sc_is_an_integer.nd
    exact (dss_one (ds_ret (de_and (de_isi cls_int (by rfl) B.h_isinstance (by rfl) B.h_int (by decide +kernel) (de_v 0)) (de_one (de_not (de_isi cls_bool (by rfl) B.h_isinstance (by rfl) B.h_bool (by decide +kernel) (de_v 0)))))))
/-! ### is_place -/
def m_is_place : Fn := mkFn 2 2 (mRet (mAndV (mCall z_is_an_integer (mCons (mV 0) mNil)) (mChain leD ltD (mC (.int 0)) (mV 0) (mV 1))))
def z_is_place : Fn := gcZ m_is_place
theorem sc_is_place : FnScope ["value", "many"] ["value", "many"] (defScope s_is_place) := ⟨rfl, rfl, rfl, by decide +kernel, rfl, by decide +kernel, by decide +kernel⟩
theorem ok_is_place {P : Program} {w : World} {K : PySem.W.Frag} {mg : Str → Option Value} {base : Heap} (B : Bt mg) (C : Ct K w mg) (k_is_an_integer : Kn P w K mg base 1 "is_an_integer" s_is_an_integer ["value"] m_is_an_integer) {f : Addr} {fd : FuncData} (F : Fun K "is_place" "is_place" s_is_place f fd) : FnG P w K mg base 2 f fd ["value", "many"] m_is_place :=
  fn_g F sc_is_place rfl rfl fun cdv A outer s H hr => by
    have nd := sc_is_place.nd
    exact (dss_one (ds_ret (de_and (de_z k_is_an_integer hr (by decide) (by rfl) (da_cons (de_v 0) da_nil)) (de_one (de_chain op_le od_cmp op_lt od_cmp (de_int) (de_v 0) (de_v 1))))))
/-! ### _leads -/
def m__leads : Fn := mkFn 3 3 (mSeq (mIte (mOr (mNot (mB (mCall z_is_place (mCons (mV 1) (mCons (m1 lenD (mCons (mV 2) mNil)) mNil))))) (mNot (mB (mCall z_is_place (mCons (mV 0) (mCons (mV 1) mNil)))))) (mRet (mC (.bl false))) mSkip)
  (mRet (m2 inD (m2 ixD (mV 2) (mV 1)) (mIxTab tab_ONTO_KINDS (m2 ixD (mV 2) (mV 0))))))
def z__leads : Fn := gcZ m__leads
theorem sc__leads : FnScope ["state", "onto", "kinds"] ["state", "onto", "kinds"] (defScope s__leads) := ⟨rfl, rfl, rfl, by decide +kernel, rfl, by decide +kernel, by decide +kernel⟩
theorem ok__leads {P : Program} {w : World} {K : PySem.W.Frag} {mg : Str → Option Value} {base : Heap} (B : Bt mg) (C : Ct K w mg) (k_is_place : Kn P w K mg base 2 "is_place" s_is_place ["value", "many"] m_is_place) {f : Addr} {fd : FuncData} (F : Fun K "_leads" "_leads" s__leads f fd) : FnG P w K mg base 3 f fd ["state", "onto", "kinds"] m__leads :=
  fn_g F sc__leads rfl rfl fun cdv A outer s H hr => by
    have nd := sc__leads.nd
    exact (dss_cons (ds_if (dt_w (dw_or (dt_not (dt_val (de_z k_is_place hr (by decide) (by rfl) (da_cons (de_v 1) (da_cons (de_len (by rfl) B.h_len (da_cons (de_v 2) da_nil)) da_nil))))) (dw_or1 (dt_not (dt_val (de_z k_is_place hr (by decide) (by rfl) (da_cons (de_v 0) (da_cons (de_v 1) da_nil)))))))) (dss_one (ds_ret (de_bl))) dss_nil)
    (dss_one (ds_ret (de_in hr (de_ix hr (de_v 2) (de_v 1)) (de_ixTab C.t_ONTO_KINDS (de_ix hr (de_v 2) (de_v 0)) (by rfl))))))
/-! ### is_word -/
def m_is_word : Fn := mkFn 1 2 (mSeq (mIte (mOr (mNot (mB (m1 (isiD "str") (mCons (mV 0) mNil)))) (mNot (mB (mChain leD leD (mC (.int 1)) (m1 lenD (mCons (mV 0) mNil)) (mC (.int 6)))))) (mRet (mC (.bl false))) mSkip)
  (mRet (m1 allD (mCons (mCompX true [1] (mIs (mV 0)) (gN 1) mYes (mChain leSD leSD (mC (.str "a")) (mV 1) (mC (.str "z")))) mNil))))
def z_is_word : Fn := gcZ m_is_word
theorem sc_is_word : FnScope ["value", "sign"] ["value"] (defScope s_is_word) := ⟨rfl, rfl, rfl, by decide +kernel, rfl, by decide +kernel, by decide +kernel⟩
theorem ok_is_word {P : Program} {w : World} {K : PySem.W.Frag} {mg : Str → Option Value} {base : Heap} (B : Bt mg) (C : Ct K w mg) {f : Addr} {fd : FuncData} (F : Fun K "is_word" "is_word" s_is_word f fd) : FnG P w K mg base 1 f fd ["value"] m_is_word :=
  fn_g F sc_is_word rfl rfl fun cdv A outer s H hr => by
    have nd := sc_is_word.nd
    exact (dss_cons (ds_if (dt_w (dw_or (dt_not (dt_val (de_isi cls_str (by rfl) B.h_isinstance (by rfl) B.h_str (by decide +kernel) (de_v 0)))) (dw_or1 (dt_not (dt_chain op_le od_cmp op_le od_cmp (de_int) (de_len (by rfl) B.h_len (da_cons (de_v 0) da_nil)) (de_kv C.k_MAX_SIGNS (by rfl))))))) (dss_one (ds_ret (de_bl))) dss_nil)
    (dss_one (ds_ret (de_all hr.calm (by rfl) B.h_all (da_cons (de_compX true [("sign", 1)] [1] rfl hr.calm nd (di_str (de_v 0)) (by kernel_rfl) (fun _ _ _ _ _ => (dg_name [1] 1 nd rfl (by first | exact Or.inl rfl | exact Or.inr rfl) (by decide))) (fun _ _ _ _ _ => dts_nil) (fun _ _ _ _ _ => (de_chain op_le_str od_cmpS op_le_str od_cmpS (de_str) (de_v 1) (de_str)))) da_nil)))))
/-! ### _is_pair -/
def m__is_pair : Fn := mkFn 3 5 (mSeq (mIte (mNot (mB (mCall z_is_tuple (mCons (mV 0) (mCons (mC (.int 2)) (mCons (mC (.int 2)) mNil)))))) (mRet (mC (.bl false))) mSkip)
  (mSeq (mAsg (mV 0) (gT (gsCons (gN 3) (gsCons (gN 4) gsNil))))
  (mRet (mAndV (mCall z_is_place (mCons (mV 3) (mCons (mV 2) mNil))) (mAndV (m2 neD (mV 3) (mV 1)) (mCall z_is_word (mCons (mV 4) mNil)))))))
def z__is_pair : Fn := gcZ m__is_pair
theorem sc__is_pair : FnScope ["value", "house", "houses", "other", "word"] ["value", "house", "houses"] (defScope s__is_pair) := ⟨rfl, rfl, rfl, by decide +kernel, rfl, by decide +kernel, by decide +kernel⟩
theorem ok__is_pair {P : Program} {w : World} {K : PySem.W.Frag} {mg : Str → Option Value} {base : Heap} (B : Bt mg) (C : Ct K w mg) (k_is_place : Kn P w K mg base 2 "is_place" s_is_place ["value", "many"] m_is_place) (k_is_tuple : Kn P w K mg base 1 "is_tuple" s_is_tuple ["value", "least", "most"] m_is_tuple) (k_is_word : Kn P w K mg base 1 "is_word" s_is_word ["value"] m_is_word) {f : Addr} {fd : FuncData} (F : Fun K "_is_pair" "_is_pair" s__is_pair f fd) : FnG P w K mg base 3 f fd ["value", "house", "houses"] m__is_pair :=
  fn_g F sc__is_pair rfl rfl fun cdv A outer s H hr => by
    have nd := sc__is_pair.nd
    exact (dss_cons (ds_if (dt_not (dt_val (de_z k_is_tuple hr (by decide) (by rfl) (da_cons (de_v 0) (da_cons (de_int) (da_cons (de_int) da_nil)))))) (dss_one (ds_ret (de_bl))) dss_nil)
    (dss_cons (ds_asg [3, 4] (de_v 0) (dg_tup hr.calm (dgs_cons (dg_name [3, 4] 3 nd rfl (by first | exact Or.inl rfl | exact Or.inr rfl) (by decide)) (dgs_cons (dg_name [3, 4] 4 nd rfl (by first | exact Or.inl rfl | exact Or.inr rfl) (by decide)) (dgs_nil [3, 4])))))
    (dss_one (ds_ret (de_and (de_z k_is_place hr (by decide) (by rfl) (da_cons (de_v 3) (da_cons (de_v 2) da_nil))) (de_and (de_ne hr (de_v 3) (de_v 1)) (de_one (de_z k_is_word hr (by decide) (by rfl) (da_cons (de_v 4) da_nil)))))))))
/-! ### _are_pairs -/
def m__are_pairs : Fn := mkFn 4 5 (mRet (mAndV (mCall z_is_tuple (mCons (mV 0) (mCons (mC (.int 0)) (mCons (mV 1) mNil)))) (m1 allD (mCons (mCompX true [4] (mI (mV 0)) (gN 4) mYes (mCall z__is_pair (mCons (mV 4) (mCons (mV 2) (mCons (mV 3) mNil))))) mNil))))
def z__are_pairs : Fn := gcZ m__are_pairs
theorem sc__are_pairs : FnScope ["value", "most", "house", "houses", "item"] ["value", "most", "house", "houses"] (defScope s__are_pairs) := ⟨rfl, rfl, rfl, by decide +kernel, rfl, by decide +kernel, by decide +kernel⟩
theorem ok__are_pairs {P : Program} {w : World} {K : PySem.W.Frag} {mg : Str → Option Value} {base : Heap} (B : Bt mg) (C : Ct K w mg) (k_is_tuple : Kn P w K mg base 1 "is_tuple" s_is_tuple ["value", "least", "most"] m_is_tuple) (k__is_pair : Kn P w K mg base 3 "_is_pair" s__is_pair ["value", "house", "houses"] m__is_pair) {f : Addr} {fd : FuncData} (F : Fun K "_are_pairs" "_are_pairs" s__are_pairs f fd) : FnG P w K mg base 4 f fd ["value", "most", "house", "houses"] m__are_pairs :=
  fn_g F sc__are_pairs rfl rfl fun cdv A outer s H hr => by
    have nd := sc__are_pairs.nd
    exact (dss_one (ds_ret (de_and (de_z k_is_tuple hr (by decide) (by rfl) (da_cons (de_v 0) (da_cons (de_int) (da_cons (de_v 1) da_nil)))) (de_one (de_all hr.calm (by rfl) B.h_all (da_cons (de_compX true [("item", 4)] [4] rfl hr.calm nd (di_seq (de_v 0)) (by kernel_rfl) (fun _ _ _ _ _ => (dg_name [4] 4 nd rfl (by first | exact Or.inl rfl | exact Or.inr rfl) (by decide))) (fun _ _ _ _ _ => dts_nil) (fun _ _ _ _ _ => (de_z k__is_pair (RG.blk hr) (by decide) (by rfl) (da_cons (de_v 4) (da_cons (de_v 2) (da_cons (de_v 3) da_nil)))))) da_nil))))))
/-! ### _is_row -/
def m__is_row : Fn := mkFn 4 9 (mSeq (mIte (mNot (mB (mCall z_is_tuple (mCons (mV 0) (mCons (mC (.int 5)) (mCons (mC (.int 5)) mNil)))))) (mRet (mC (.bl false))) mSkip)
  (mSeq (mAsg (mV 0) (gT (gsCons (gN 4) (gsCons (gN 5) (gsCons (gN 6) (gsCons (gN 7) (gsCons (gN 8) gsNil)))))))
  (mSeq (mIte (mOr (mNot (mB (mCall z__leads (mCons (mV 4) (mCons (mV 6) (mCons (mV 1) mNil)))))) (mNot (mB (m1 (isiD "bool") (mCons (mV 8) mNil))))) (mRet (mC (.bl false))) mSkip)
  (mSeq (mIte (mOr (mNot (mB (mCall z__are_pairs (mCons (mV 5) (mCons (mC (.int 4)) (mCons (mV 2) (mCons (mV 3) mNil))))))) (mNot (mB (mCall z__are_pairs (mCons (mV 7) (mCons (mC (.int 6)) (mCons (mV 2) (mCons (mV 3) mNil)))))))) (mRet (mC (.bl false))) mSkip)
  (mRet (mAndV (mCall z_is_ascending (mCons (mV 5) mNil)) (m2 eqD (mLenSet (mV 7)) (m1 lenD (mCons (mV 7) mNil)))))))))
def z__is_row : Fn := gcZ m__is_row
theorem sc__is_row : FnScope ["value", "kinds", "house", "houses", "state", "takes", "onto", "sends", "late"] ["value", "kinds", "house", "houses"] (defScope s__is_row) := ⟨rfl, rfl, rfl, by decide +kernel, rfl, by decide +kernel, by decide +kernel⟩
theorem ok__is_row {P : Program} {w : World} {K : PySem.W.Frag} {mg : Str → Option Value} {base : Heap} (B : Bt mg) (C : Ct K w mg) (k_is_tuple : Kn P w K mg base 1 "is_tuple" s_is_tuple ["value", "least", "most"] m_is_tuple) (k_is_ascending : Kn P w K mg base 1 "is_ascending" s_is_ascending ["items"] m_is_ascending) (k__leads : Kn P w K mg base 3 "_leads" s__leads ["state", "onto", "kinds"] m__leads) (k__are_pairs : Kn P w K mg base 4 "_are_pairs" s__are_pairs ["value", "most", "house", "houses"] m__are_pairs) {f : Addr} {fd : FuncData} (F : Fun K "_is_row" "_is_row" s__is_row f fd) : FnG P w K mg base 5 f fd ["value", "kinds", "house", "houses"] m__is_row :=
  fn_g F sc__is_row rfl rfl fun cdv A outer s H hr => by
    have nd := sc__is_row.nd
    exact (dss_cons (ds_if (dt_not (dt_val (de_z k_is_tuple hr (by decide) (by rfl) (da_cons (de_v 0) (da_cons (de_int) (da_cons (de_int) da_nil)))))) (dss_one (ds_ret (de_bl))) dss_nil)
    (dss_cons (ds_asg [4, 5, 6, 7, 8] (de_v 0) (dg_tup hr.calm (dgs_cons (dg_name [4, 5, 6, 7, 8] 4 nd rfl (by first | exact Or.inl rfl | exact Or.inr rfl) (by decide)) (dgs_cons (dg_name [4, 5, 6, 7, 8] 5 nd rfl (by first | exact Or.inl rfl | exact Or.inr rfl) (by decide)) (dgs_cons (dg_name [4, 5, 6, 7, 8] 6 nd rfl (by first | exact Or.inl rfl | exact Or.inr rfl) (by decide)) (dgs_cons (dg_name [4, 5, 6, 7, 8] 7 nd rfl (by first | exact Or.inl rfl | exact Or.inr rfl) (by decide)) (dgs_cons (dg_name [4, 5, 6, 7, 8] 8 nd rfl (by first | exact Or.inl rfl | exact Or.inr rfl) (by decide)) (dgs_nil [4, 5, 6, 7, 8]))))))))
    (dss_cons (ds_if (dt_w (dw_or (dt_not (dt_val (de_z k__leads hr (by decide) (by rfl) (da_cons (de_v 4) (da_cons (de_v 6) (da_cons (de_v 1) da_nil)))))) (dw_or1 (dt_not (dt_val (de_isi cls_bool (by rfl) B.h_isinstance (by rfl) B.h_bool (by decide +kernel) (de_v 8))))))) (dss_one (ds_ret (de_bl))) dss_nil)
    (dss_cons (ds_if (dt_w (dw_or (dt_not (dt_val (de_z k__are_pairs hr (by decide) (by rfl) (da_cons (de_v 5) (da_cons (de_kv C.k_MAX_TAKES (by rfl)) (da_cons (de_v 2) (da_cons (de_v 3) da_nil))))))) (dw_or1 (dt_not (dt_val (de_z k__are_pairs hr (by decide) (by rfl) (da_cons (de_v 7) (da_cons (de_kv C.k_MAX_SENDS (by rfl)) (da_cons (de_v 2) (da_cons (de_v 3) da_nil)))))))))) (dss_one (ds_ret (de_bl))) dss_nil)
    (dss_one (ds_ret (de_and (de_z k_is_ascending hr (by decide) (by rfl) (da_cons (de_v 5) da_nil)) (de_one (de_eq hr (de_lenSet hr (by rfl) B.h_len (by rfl) B.h_set (de_v 7)) (de_len (by rfl) B.h_len (da_cons (de_v 7) da_nil)))))))))))
/-! ### _book_error -/
def m__book_error : Fn := mkFn 3 7 (mSeq (mIte (mNot (mB (mCall z_is_tuple (mCons (mV 0) (mCons (mC (.int 2)) (mCons (mC (.int 2)) mNil)))))) (mRet (mTup (mCons (mC (.str "book")) (mCons (mV 1) mNil)))) mSkip)
  (mSeq (mAsg (mV 0) (gT (gsCons (gN 3) (gsCons (gN 4) gsNil))))
  (mSeq (mIte (mOr (mNot (mB (m1 (isiD "tuple") (mCons (mV 3) mNil)))) (mNot (mB (m1 (isiD "tuple") (mCons (mV 4) mNil))))) (mRet (mTup (mCons (mC (.str "book")) (mCons (mV 1) mNil)))) mSkip)
  (mSeq (mIte (mNot (mB (mCall z__are_kinds (mCons (mV 3) mNil)))) (mRet (mTup (mCons (mC (.str "kinds")) (mCons (mV 1) mNil)))) mSkip)
  (mSeq (mFor (mEnum (mCons (mV 4) mNil)) (gT (gsCons (gN 5) (gsCons (gN 6) gsNil))) (mIte (mOr (mB (m2 eqD (mV 5) (mC (.int 12)))) (mNot (mB (mCall z__is_row (mCons (mV 6) (mCons (mV 3) (mCons (mV 1) (mCons (mV 2) mNil)))))))) (mRet (mTup (mCons (mC (.str "row")) (mCons (mV 1) (mCons (mV 5) mNil))))) mSkip))
  (mRet (mC .non)))))))
def z__book_error : Fn := gcZ m__book_error
theorem sc__book_error : FnScope ["book", "house", "houses", "kinds", "rows", "k", "row"] ["book", "house", "houses"] (defScope s__book_error) := ⟨rfl, rfl, rfl, by decide +kernel, rfl, by decide +kernel, by decide +kernel⟩
theorem ok__book_error {P : Program} {w : World} {K : PySem.W.Frag} {mg : Str → Option Value} {base : Heap} (B : Bt mg) (C : Ct K w mg) (k_is_tuple : Kn P w K mg base 1 "is_tuple" s_is_tuple ["value", "least", "most"] m_is_tuple) (k__are_kinds : Kn P w K mg base 2 "_are_kinds" s__are_kinds ["kinds"] m__are_kinds) (k__is_row : Kn P w K mg base 5 "_is_row" s__is_row ["value", "kinds", "house", "houses"] m__is_row) {f : Addr} {fd : FuncData} (F : Fun K "_book_error" "_book_error" s__book_error f fd) : FnG P w K mg base 6 f fd ["book", "house", "houses"] m__book_error :=
  fn_g F sc__book_error rfl rfl fun cdv A outer s H hr => by
    have nd := sc__book_error.nd
    exact (dss_cons (ds_if (dt_not (dt_val (de_z k_is_tuple hr (by decide) (by rfl) (da_cons (de_v 0) (da_cons (de_int) (da_cons (de_int) da_nil)))))) (dss_one (ds_ret (de_tup (da_cons (de_str) (da_cons (de_v 1) da_nil))))) dss_nil)
    (dss_cons (ds_asg [3, 4] (de_v 0) (dg_tup hr.calm (dgs_cons (dg_name [3, 4] 3 nd rfl (by first | exact Or.inl rfl | exact Or.inr rfl) (by decide)) (dgs_cons (dg_name [3, 4] 4 nd rfl (by first | exact Or.inl rfl | exact Or.inr rfl) (by decide)) (dgs_nil [3, 4])))))
    (dss_cons (ds_if (dt_w (dw_or (dt_not (dt_val (de_isi cls_tuple (by rfl) B.h_isinstance (by rfl) B.h_tuple (by decide +kernel) (de_v 3)))) (dw_or1 (dt_not (dt_val (de_isi cls_tuple (by rfl) B.h_isinstance (by rfl) B.h_tuple (by decide +kernel) (de_v 4))))))) (dss_one (ds_ret (de_tup (da_cons (de_str) (da_cons (de_v 1) da_nil))))) dss_nil)
    (dss_cons (ds_if (dt_not (dt_val (de_z k__are_kinds hr (by decide) (by rfl) (da_cons (de_v 3) da_nil)))) (dss_one (ds_ret (de_tup (da_cons (de_str) (da_cons (de_v 1) da_nil))))) dss_nil)
    (dss_cons (ds_for [5, 6] PassesOwn.never hr.calm (di_enum (by rfl) B.h_enumerate (da_cons (de_v 4) da_nil)) (dg_tup hr.calm (dgs_cons (dg_name [5, 6] 5 nd rfl (by first | exact Or.inl rfl | exact Or.inr rfl) (by decide)) (dgs_cons (dg_name [5, 6] 6 nd rfl (by first | exact Or.inl rfl | exact Or.inr rfl) (by decide)) (dgs_nil [5, 6])))) (dss_one (ds_if (dt_w (dw_or (dt_eq hr (de_v 5) (de_kv C.k_MAX_ROWS (by rfl))) (dw_or1 (dt_not (dt_val (de_z k__is_row hr (by decide) (by rfl) (da_cons (de_v 6) (da_cons (de_v 3) (da_cons (de_v 1) (da_cons (de_v 2) da_nil)))))))))) (dss_one (ds_ret (de_tup (da_cons (de_str) (da_cons (de_v 1) (da_cons (de_v 5) da_nil)))))) dss_nil)))
    (dss_one (ds_ret (de_non))))))))
/-! ### agreement_error -/
def m_agreement_error : Fn := mkFn 1 4 (mSeq (mIte (mNot (mB (mCall z_is_tuple (mCons (mV 0) (mCons (mC (.int 2)) (mCons (mC (.int 4)) mNil)))))) (mRet (mC (.str "form"))) mSkip)
  (mSeq (mFor (mEnum (mCons (mV 0) mNil)) (gT (gsCons (gN 1) (gsCons (gN 2) gsNil))) (mSeq (mAsg (mCall z__book_error (mCons (mV 2) (mCons (mV 1) (mCons (m1 lenD (mCons (mV 0) mNil)) mNil)))) (gN 3))
  (mIte (mB (m2 notND (mV 3) (mC .non))) (mRet (mV 3)) mSkip)))
  (mRet (mC .non))))
def z_agreement_error : Fn := gcZ m_agreement_error
theorem sc_agreement_error : FnScope ["value", "house", "book", "error"] ["value"] (defScope s_agreement_error) := ⟨rfl, rfl, rfl, by decide +kernel, rfl, by decide +kernel, by decide +kernel⟩
theorem ok_agreement_error {P : Program} {w : World} {K : PySem.W.Frag} {mg : Str → Option Value} {base : Heap} (B : Bt mg) (C : Ct K w mg) (k_is_tuple : Kn P w K mg base 1 "is_tuple" s_is_tuple ["value", "least", "most"] m_is_tuple) (k__book_error : Kn P w K mg base 6 "_book_error" s__book_error ["book", "house", "houses"] m__book_error) {f : Addr} {fd : FuncData} (F : Fun K "agreement_error" "agreement_error" s_agreement_error f fd) : FnG P w K mg base 7 f fd ["value"] m_agreement_error :=
  fn_g F sc_agreement_error rfl rfl fun cdv A outer s H hr => by
    have nd := sc_agreement_error.nd
    exact (dss_cons (ds_if (dt_not (dt_val (de_z k_is_tuple hr (by decide) (by rfl) (da_cons (de_v 0) (da_cons (de_int) (da_cons (de_kv C.k_MAX_HOUSES (by rfl)) da_nil)))))) (dss_one (ds_ret (de_str))) dss_nil)
    (dss_cons (ds_for [1, 2] PassesOwn.never hr.calm (di_enum (by rfl) B.h_enumerate (da_cons (de_v 0) da_nil)) (dg_tup hr.calm (dgs_cons (dg_name [1, 2] 1 nd rfl (by first | exact Or.inl rfl | exact Or.inr rfl) (by decide)) (dgs_cons (dg_name [1, 2] 2 nd rfl (by first | exact Or.inl rfl | exact Or.inr rfl) (by decide)) (dgs_nil [1, 2])))) (dss_cons (ds_set 3 nd rfl (by first | exact Or.inl rfl | exact Or.inr rfl) (de_z k__book_error hr (by decide) (by rfl) (da_cons (de_v 2) (da_cons (de_v 1) (da_cons (de_len (by rfl) B.h_len (da_cons (de_v 0) da_nil)) da_nil)))))
    (dss_one (ds_if (dt_notN (de_v 3) (de_non)) (dss_one (ds_ret (de_v 3))) dss_nil))))
    (dss_one (ds_ret (de_non)))))
/-! ### _words -/
def m__words : Fn := mkFn 1 5 (mRet (mCompN [1, 2, 3, 4] (mI (mV 0)) (gT (gsCons (gN 1) (gsCons (gN 2) gsNil))) mYes (innerN (mI (mV 2)) (gN 3) mYes [3, 1, 4] (innerN (mI (m2 (addX true) (m2 ixD (mV 3) (mC (.int 1))) (m2 ixD (mV 3) (mC (.int 3))))) (gT (gsCons (gN 1) (gsCons (gN 4) gsNil))) mYes [1, 4] (lastN (mV 4))))))
def z__words : Fn := gcZ m__words
theorem sc__words : FnScope ["agreement", "_", "rows", "row", "word"] ["agreement"] (defScope s__words) := ⟨rfl, rfl, rfl, by decide +kernel, rfl, by decide +kernel, by decide +kernel⟩
theorem ok__words {P : Program} {w : World} {K : PySem.W.Frag} {mg : Str → Option Value} {base : Heap} (B : Bt mg) (C : Ct K w mg) {f : Addr} {fd : FuncData} (F : Fun K "_words" "_words" s__words f fd) : FnG P w K mg base 1 f fd ["agreement"] m__words :=
  fn_g F sc__words rfl rfl fun cdv A outer s H hr => by
    have nd := sc__words.nd
    exact (dss_one (ds_ret (de_compN (own := [("_", 1), ("rows", 2), ("row", 3), ("word", 4)]) (vs := [1, 2, 3, 4]) rfl hr.calm nd (di_seq (de_v 0)) (by kernel_rfl) (fun _ _ _ _ _ => (dg_tup (RG.blk hr).calm (dgs_cons (dg_name [1, 2, 3, 4] 1 nd rfl (by first | exact Or.inl rfl | exact Or.inr rfl) (by decide)) (dgs_cons (dg_name [1, 2, 3, 4] 2 nd rfl (by first | exact Or.inl rfl | exact Or.inr rfl) (by decide)) (dgs_nil [1, 2, 3, 4]))))) (fun _ _ _ _ _ => dts_nil) (fun _ _ _ _ _ => (dn_next rfl rfl (RG.blk hr).calm (di_seq (de_v 2)) (dg_name [3, 1, 4] 3 nd rfl (by first | exact Or.inl rfl | exact Or.inr rfl) (by decide)) dts_nil (dn_next rfl rfl (RG.blk hr).calm (di_seq (de_addX true (de_ix (RG.blk hr) (de_v 3) (de_int)) (de_ix (RG.blk hr) (de_v 3) (de_int)))) (dg_tup (RG.blk hr).calm (dgs_cons (dg_name [1, 4] 1 nd rfl (by first | exact Or.inl rfl | exact Or.inr rfl) (by decide)) (dgs_cons (dg_name [1, 4] 4 nd rfl (by first | exact Or.inl rfl | exact Or.inr rfl) (by decide)) (dgs_nil [1, 4])))) dts_nil (dn_last (vs := []) rfl rfl (de_v 4)) (by decide)) (by decide))) (by decide))))
/-! ### _with_letters -/
def m__with_letters : Fn := mkFn 2 7 (mSeq (mAsg (mV 0) (gT (gsCons (gN 2) (gsCons (gN 3) (gsCons (gN 4) (gsCons (gN 5) (gsCons (gN 6) gsNil)))))))
  (mRet (mTup (mCons (mV 2) (mCons (mV 3) (mCons (mV 4) (mCons (m2 (addX true) (mV 5) (mV 1)) (mCons (mC (.bl false)) mNil))))))))
def z__with_letters : Fn := gcZ m__with_letters
theorem sc__with_letters : FnScope ["row", "letters", "state", "takes", "onto", "sends", "_"] ["row", "letters"] (defScope s__with_letters) := ⟨rfl, rfl, rfl, by decide +kernel, rfl, by decide +kernel, by decide +kernel⟩
theorem ok__with_letters {P : Program} {w : World} {K : PySem.W.Frag} {mg : Str → Option Value} {base : Heap} (B : Bt mg) (C : Ct K w mg) {f : Addr} {fd : FuncData} (F : Fun K "_with_letters" "_with_letters" s__with_letters f fd) : FnG P w K mg base 1 f fd ["row", "letters"] m__with_letters :=
  fn_g F sc__with_letters rfl rfl fun cdv A outer s H hr => by
    have nd := sc__with_letters.nd
    exact (dss_cons (ds_asg [2, 3, 4, 5, 6] (de_v 0) (dg_tup hr.calm (dgs_cons (dg_name [2, 3, 4, 5, 6] 2 nd rfl (by first | exact Or.inl rfl | exact Or.inr rfl) (by decide)) (dgs_cons (dg_name [2, 3, 4, 5, 6] 3 nd rfl (by first | exact Or.inl rfl | exact Or.inr rfl) (by decide)) (dgs_cons (dg_name [2, 3, 4, 5, 6] 4 nd rfl (by first | exact Or.inl rfl | exact Or.inr rfl) (by decide)) (dgs_cons (dg_name [2, 3, 4, 5, 6] 5 nd rfl (by first | exact Or.inl rfl | exact Or.inr rfl) (by decide)) (dgs_cons (dg_name [2, 3, 4, 5, 6] 6 nd rfl (by first | exact Or.inl rfl | exact Or.inr rfl) (by decide)) (dgs_nil [2, 3, 4, 5, 6]))))))))
    (dss_one (ds_ret (de_tup (da_cons (de_v 2) (da_cons (de_v 3) (da_cons (de_v 4) (da_cons (de_addX true (de_v 5) (de_v 1)) (da_cons (de_bl) da_nil)))))))))
/-! ### _mended_book -/
def m__mended_book : Fn := mkFn 3 15 (mSeq (mAsg (m2 ixD (mV 0) (mV 1)) (gT (gsCons (gN 3) (gsCons (gN 4) gsNil))))
  (mSeq (mAsg (mCompX true [10, 11] (mEnum (mCons (mV 3) mNil)) (gT (gsCons (gN 10) (gsCons (gN 11) gsNil))) (mB (m2 eqD (mV 11) (mC (.str "done")))) (mV 10)) (gN 5))
  (mSeq (mAsg (m1 tupleD (mCons (mCompX true [12] (mR1 (mCons (m1 lenD (mCons (mV 0) mNil)) mNil)) (gN 12) (mB (m2 neD (mV 12) (mV 1))) (mTup (mCons (mV 12) (mCons (mV 2) mNil)))) mNil)) (gN 6))
  (mSeq (mAsg (m2 (addX true) (m1 tupleD (mCons (mCompX true [11] (mI (mV 3)) (gN 11) mYes (mIf (mB (m2 eqD (mV 11) (mC (.str "done")))) (mC (.str "yes")) (mV 11))) mNil)) (m2 mulB (mTup (mCons (mC (.str "done")) mNil)) (m1 lenD (mCons (mV 5) mNil)))) (gN 7))
  (mSeq (mAsg (m1 tupleD (mCons (mCompX true [13] (mI (mV 4)) (gN 13) mYes (mIf (mB (m2 inD (m2 ixD (mV 13) (mC (.int 2))) (mV 5))) (mCall z__with_letters (mCons (mV 13) (mCons (mV 6) mNil))) (mV 13))) mNil)) (gN 8))
  (mSeq (mAsg (m1 tupleD (mCons (mCompX true [14, 10] (mEnum (mCons (mV 5) mNil)) (gT (gsCons (gN 14) (gsCons (gN 10) gsNil))) mYes (mTup (mCons (mV 10) (mCons (mV 6) (mCons (m2 (addX true) (m1 lenD (mCons (mV 3) mNil)) (mV 14)) (mCons (mTup mNil) (mCons (mC (.bl false)) mNil))))))) mNil)) (gN 9))
  (mRet (mTup (mCons (mV 7) (mCons (m2 (addX true) (mV 8) (mV 9)) mNil))))))))))
def z__mended_book : Fn := gcZ m__mended_book
theorem sc__mended_book : FnScope ["agreement", "house", "word", "kinds", "rows", "ready", "letters", "kinds_then", "rows_then", "ends", "state", "told", "other", "row", "place"] ["agreement", "house", "word"] (defScope s__mended_book) := ⟨rfl, rfl, rfl, by decide +kernel, rfl, by decide +kernel, by decide +kernel⟩
theorem ok__mended_book {P : Program} {w : World} {K : PySem.W.Frag} {mg : Str → Option Value} {base : Heap} (B : Bt mg) (C : Ct K w mg) (k__with_letters : Kn P w K mg base 1 "_with_letters" s__with_letters ["row", "letters"] m__with_letters) {f : Addr} {fd : FuncData} (F : Fun K "_mended_book" "_mended_book" s__mended_book f fd) : FnG P w K mg base 2 f fd ["agreement", "house", "word"] m__mended_book :=
  fn_g F sc__mended_book rfl rfl fun cdv A outer s H hr => by
    have nd := sc__mended_book.nd
    exact (dss_cons (ds_asg [3, 4] (de_ix hr (de_v 0) (de_v 1)) (dg_tup hr.calm (dgs_cons (dg_name [3, 4] 3 nd rfl (by first | exact Or.inl rfl | exact Or.inr rfl) (by decide)) (dgs_cons (dg_name [3, 4] 4 nd rfl (by first | exact Or.inl rfl | exact Or.inr rfl) (by decide)) (dgs_nil [3, 4])))))
    (dss_cons (ds_set 5 nd rfl (by first | exact Or.inl rfl | exact Or.inr rfl) (de_compX true [("state", 10), ("told", 11)] [10, 11] rfl hr.calm nd (di_enum (by rfl) B.h_enumerate (da_cons (de_v 3) da_nil)) (by kernel_rfl) (fun _ _ _ _ _ => (dg_tup (RG.blk hr).calm (dgs_cons (dg_name [10, 11] 10 nd rfl (by first | exact Or.inl rfl | exact Or.inr rfl) (by decide)) (dgs_cons (dg_name [10, 11] 11 nd rfl (by first | exact Or.inl rfl | exact Or.inr rfl) (by decide)) (dgs_nil [10, 11]))))) (fun _ _ _ _ _ => (dts_one (dt_eq (RG.blk hr) (de_v 11) (de_str)))) (fun _ _ _ _ _ => (de_v 10))))
    (dss_cons (ds_set 6 nd rfl (by first | exact Or.inl rfl | exact Or.inr rfl) (de_tuple (by rfl) B.h_tuple (da_cons (de_compX true [("other", 12)] [12] rfl hr.calm nd (di_r1 (by rfl) B.h_range (da_cons (de_len (by rfl) B.h_len (da_cons (de_v 0) da_nil)) da_nil)) (by kernel_rfl) (fun _ _ _ _ _ => (dg_name [12] 12 nd rfl (by first | exact Or.inl rfl | exact Or.inr rfl) (by decide))) (fun _ _ _ _ _ => (dts_one (dt_ne (RG.blk hr) (de_v 12) (de_v 1)))) (fun _ _ _ _ _ => (de_tup (da_cons (de_v 12) (da_cons (de_v 2) da_nil))))) da_nil)))
    (dss_cons (ds_set 7 nd rfl (by first | exact Or.inl rfl | exact Or.inr rfl) (de_addX true (de_tuple (by rfl) B.h_tuple (da_cons (de_compX true [("told", 11)] [11] rfl hr.calm nd (di_seq (de_v 3)) (by kernel_rfl) (fun _ _ _ _ _ => (dg_name [11] 11 nd rfl (by first | exact Or.inl rfl | exact Or.inr rfl) (by decide))) (fun _ _ _ _ _ => dts_nil) (fun _ _ _ _ _ => (de_if (dt_eq (RG.blk hr) (de_v 11) (de_str)) (de_str) (de_v 11)))) da_nil)) (de_mulB (de_tup (da_cons (de_str) da_nil)) (de_len (by rfl) B.h_len (da_cons (de_v 5) da_nil)))))
    (dss_cons (ds_set 8 nd rfl (by first | exact Or.inl rfl | exact Or.inr rfl) (de_tuple (by rfl) B.h_tuple (da_cons (de_compX true [("row", 13)] [13] rfl hr.calm nd (di_seq (de_v 4)) (by kernel_rfl) (fun _ _ _ _ _ => (dg_name [13] 13 nd rfl (by first | exact Or.inl rfl | exact Or.inr rfl) (by decide))) (fun _ _ _ _ _ => dts_nil) (fun _ _ _ _ _ => (de_if (dt_in (RG.blk hr) (de_ix (RG.blk hr) (de_v 13) (de_int)) (de_v 5)) (de_z k__with_letters (RG.blk hr) (by decide) (by rfl) (da_cons (de_v 13) (da_cons (de_v 6) da_nil))) (de_v 13)))) da_nil)))
    (dss_cons (ds_set 9 nd rfl (by first | exact Or.inl rfl | exact Or.inr rfl) (de_tuple (by rfl) B.h_tuple (da_cons (de_compX true [("place", 14), ("state", 10)] [14, 10] rfl hr.calm nd (di_enum (by rfl) B.h_enumerate (da_cons (de_v 5) da_nil)) (by kernel_rfl) (fun _ _ _ _ _ => (dg_tup (RG.blk hr).calm (dgs_cons (dg_name [14, 10] 14 nd rfl (by first | exact Or.inl rfl | exact Or.inr rfl) (by decide)) (dgs_cons (dg_name [14, 10] 10 nd rfl (by first | exact Or.inl rfl | exact Or.inr rfl) (by decide)) (dgs_nil [14, 10]))))) (fun _ _ _ _ _ => dts_nil) (fun _ _ _ _ _ => (de_tup (da_cons (de_v 10) (da_cons (de_v 6) (da_cons (de_addX true (de_len (by rfl) B.h_len (da_cons (de_v 3) da_nil)) (de_v 14)) (da_cons (de_tup da_nil) (da_cons (de_bl) da_nil)))))))) da_nil)))
    (dss_one (ds_ret (de_tup (da_cons (de_v 7) (da_cons (de_addX true (de_v 8) (de_v 9)) da_nil)))))))))))
/-! ### _check_bounds -/
def m__check_bounds : Fn := mkFn 1 5 (mSeq (mIte (mB (m1 anyD (mCons (mCompX true [1, 2] (mI (mV 0)) (gT (gsCons (gN 1) (gsCons (gN 2) gsNil))) mYes (m2 gtD (m1 lenD (mCons (mV 1) mNil)) (mC (.int 8)))) mNil))) mNoS mSkip)
  (mSeq (mIte (mB (m1 anyD (mCons (mCompX true [2, 3] (mI (mV 0)) (gT (gsCons (gN 2) (gsCons (gN 3) gsNil))) mYes (m2 gtD (m1 lenD (mCons (mV 3) mNil)) (mC (.int 12)))) mNil))) mNoS mSkip)
  (mIte (mB (m1 anyD (mCons (mCompN [2, 3, 4] (mI (mV 0)) (gT (gsCons (gN 2) (gsCons (gN 3) gsNil))) mYes (innerN (mI (mV 3)) (gN 4) mYes [4] (lastN (m2 gtD (m1 lenD (mCons (m2 ixD (mV 4) (mC (.int 3))) mNil)) (mC (.int 6)))))) mNil))) mNoS mSkip)))
def z__check_bounds : Fn := gcZ m__check_bounds
theorem sc__check_bounds : FnScope ["books", "kinds", "_", "rows", "row"] ["books"] (defScope s__check_bounds) := ⟨rfl, rfl, rfl, by decide +kernel, rfl, by decide +kernel, by decide +kernel⟩
theorem ok__check_bounds {P : Program} {w : World} {K : PySem.W.Frag} {mg : Str → Option Value} {base : Heap} (B : Bt mg) (C : Ct K w mg) {f : Addr} {fd : FuncData} (F : Fun K "_check_bounds" "_check_bounds" s__check_bounds f fd) : FnG P w K mg base 1 f fd ["books"] m__check_bounds :=
  fn_g F sc__check_bounds rfl rfl fun cdv A outer s H hr => by
    have nd := sc__check_bounds.nd
    exact (dss_cons (ds_if (dt_val (de_any hr.calm (by rfl) B.h_any (da_cons (de_compX true [("kinds", 1), ("_", 2)] [1, 2] rfl hr.calm nd (di_seq (de_v 0)) (by kernel_rfl) (fun _ _ _ _ _ => (dg_tup (RG.blk hr).calm (dgs_cons (dg_name [1, 2] 1 nd rfl (by first | exact Or.inl rfl | exact Or.inr rfl) (by decide)) (dgs_cons (dg_name [1, 2] 2 nd rfl (by first | exact Or.inl rfl | exact Or.inr rfl) (by decide)) (dgs_nil [1, 2]))))) (fun _ _ _ _ _ => dts_nil) (fun _ _ _ _ _ => (de_gt (de_len (by rfl) B.h_len (da_cons (de_v 1) da_nil)) (de_kv C.k_MAX_STATES (by rfl))))) da_nil))) (dss_one ds_no) dss_nil)
    (dss_cons (ds_if (dt_val (de_any hr.calm (by rfl) B.h_any (da_cons (de_compX true [("_", 2), ("rows", 3)] [2, 3] rfl hr.calm nd (di_seq (de_v 0)) (by kernel_rfl) (fun _ _ _ _ _ => (dg_tup (RG.blk hr).calm (dgs_cons (dg_name [2, 3] 2 nd rfl (by first | exact Or.inl rfl | exact Or.inr rfl) (by decide)) (dgs_cons (dg_name [2, 3] 3 nd rfl (by first | exact Or.inl rfl | exact Or.inr rfl) (by decide)) (dgs_nil [2, 3]))))) (fun _ _ _ _ _ => dts_nil) (fun _ _ _ _ _ => (de_gt (de_len (by rfl) B.h_len (da_cons (de_v 3) da_nil)) (de_kv C.k_MAX_ROWS (by rfl))))) da_nil))) (dss_one ds_no) dss_nil)
    (dss_one (ds_if (dt_val (de_any hr.calm (by rfl) B.h_any (da_cons (de_compN (own := [("_", 2), ("rows", 3), ("row", 4)]) (vs := [2, 3, 4]) rfl hr.calm nd (di_seq (de_v 0)) (by kernel_rfl) (fun _ _ _ _ _ => (dg_tup (RG.blk hr).calm (dgs_cons (dg_name [2, 3, 4] 2 nd rfl (by first | exact Or.inl rfl | exact Or.inr rfl) (by decide)) (dgs_cons (dg_name [2, 3, 4] 3 nd rfl (by first | exact Or.inl rfl | exact Or.inr rfl) (by decide)) (dgs_nil [2, 3, 4]))))) (fun _ _ _ _ _ => dts_nil) (fun _ _ _ _ _ => (dn_next rfl rfl (RG.blk hr).calm (di_seq (de_v 3)) (dg_name [4] 4 nd rfl (by first | exact Or.inl rfl | exact Or.inr rfl) (by decide)) dts_nil (dn_last (vs := []) rfl rfl (de_gt (de_len (by rfl) B.h_len (da_cons (de_ix (RG.blk hr) (de_v 4) (de_int)) da_nil)) (de_kv C.k_MAX_SENDS (by rfl)))) (by decide))) (by decide)) da_nil))) (dss_one ds_no) dss_nil))))
/-! ### mended -/
def m_mended : Fn := mkFn 2 4 (mSeq (mIte (mOr (mNot (mB (mCall z_is_word (mCons (mV 1) mNil)))) (mB (m2 inD (mV 1) (mCall z__words (mCons (mV 0) mNil))))) mNoS mSkip)
  (mSeq (mAsg (m1 tupleD (mCons (mCompX true [3] (mR1 (mCons (m1 lenD (mCons (mV 0) mNil)) mNil)) (gN 3) mYes (mCall z__mended_book (mCons (mV 0) (mCons (mV 3) (mCons (mV 1) mNil))))) mNil)) (gN 2))
  (mSeq (mDo (mCall z__check_bounds (mCons (mV 2) mNil)))
  (mRet (mV 2)))))
def z_mended : Fn := gcZ m_mended
theorem sc_mended : FnScope ["agreement", "word", "books", "house"] ["agreement", "word"] (defScope s_mended) := ⟨rfl, rfl, rfl, by decide +kernel, rfl, by decide +kernel, by decide +kernel⟩
theorem ok_mended {P : Program} {w : World} {K : PySem.W.Frag} {mg : Str → Option Value} {base : Heap} (B : Bt mg) (C : Ct K w mg) (k_is_word : Kn P w K mg base 1 "is_word" s_is_word ["value"] m_is_word) (k__words : Kn P w K mg base 1 "_words" s__words ["agreement"] m__words) (k__mended_book : Kn P w K mg base 2 "_mended_book" s__mended_book ["agreement", "house", "word"] m__mended_book) (k__check_bounds : Kn P w K mg base 1 "_check_bounds" s__check_bounds ["books"] m__check_bounds) {f : Addr} {fd : FuncData} (F : Fun K "mended" "mended" s_mended f fd) : FnG P w K mg base 3 f fd ["agreement", "word"] m_mended :=
  fn_g F sc_mended rfl rfl fun cdv A outer s H hr => by
    have nd := sc_mended.nd
    exact (dss_cons (ds_if (dt_w (dw_or (dt_not (dt_val (de_z k_is_word hr (by decide) (by rfl) (da_cons (de_v 1) da_nil)))) (dw_or1 (dt_in hr (de_v 1) (de_z k__words hr (by decide) (by rfl) (da_cons (de_v 0) da_nil)))))) (dss_one ds_no) dss_nil)
    (dss_cons (ds_set 2 nd rfl (by first | exact Or.inl rfl | exact Or.inr rfl) (de_tuple (by rfl) B.h_tuple (da_cons (de_compX true [("house", 3)] [3] rfl hr.calm nd (di_r1 (by rfl) B.h_range (da_cons (de_len (by rfl) B.h_len (da_cons (de_v 0) da_nil)) da_nil)) (by kernel_rfl) (fun _ _ _ _ _ => (dg_name [3] 3 nd rfl (by first | exact Or.inl rfl | exact Or.inr rfl) (by decide))) (fun _ _ _ _ _ => dts_nil) (fun _ _ _ _ _ => (de_z k__mended_book (RG.blk hr) (by decide) (by rfl) (da_cons (de_v 0) (da_cons (de_v 3) (da_cons (de_v 1) da_nil)))))) da_nil)))
    (dss_cons (ds_do (de_z k__check_bounds hr (by decide) (by rfl) (da_cons (de_v 2) da_nil)))
    (dss_one (ds_ret (de_v 2))))))
/-! ### _law_bag -/
def m__law_bag : Fn := mkFn 1 4 (mSeq (mAsg (mDict3 "great" "seed" "turn" (mLstX false mNil) (m2 (addX false) (mC (.int 15020049)) (m1 lenD (mCons (mSlX true (mV 0) mNoP (mP (mC (.int 63)))) mNil))) (mC (.int 0))) (gN 1))
  (mSeq (mFor (mI (mSlX true (mV 0) mNoP (mP (mC (.int 63))))) (gN 2) (mSeq (mIte (mB (m2 geD (m1 absD (mCons (mV 2) mNil)) (m2 powD (mC (.int 10)) (mC (.int 16))))) (mPut (m2 (addX false) (mLstX true (mCons (m1 absD (mCons (mV 2) mNil)) mNil)) (m2 ixD (mV 1) (mC (.str "great")))) (mV 1) (mC (.str "great"))) mSkip)
  (mSeq (mAsg (m2 (addX true) (m2 mulD (mC (.int 2)) (m1 absD (mCons (mV 2) mNil))) (m1 toIntD (mCons (m2 ltD (mV 2) (mC (.int 0))) mNil))) (gN 3))
  (mPut (m2 modD (m1 toIntD (mCons (m2 (addX true) (m2 mulD (m2 (addX true) (m2 (addX true) (m2 ixD (mV 1) (mC (.str "seed"))) (mV 3)) (mC (.int 1))) (mC (.int 6364136223846793005))) (mC (.int 1442695040888963407))) mNil)) (mC (.int 9223372036854775783))) (mV 1) (mC (.str "seed"))))))
  (mRet (mV 1))))
def z__law_bag : Fn := gcZ m__law_bag
theorem sc__law_bag : FnScope ["script", "bag", "cell", "own"] ["script"] (defScope s__law_bag) := ⟨rfl, rfl, rfl, by decide +kernel, rfl, by decide +kernel, by decide +kernel⟩
theorem ok__law_bag {P : Program} {w : World} {K : PySem.W.Frag} {mg : Str → Option Value} {base : Heap} (B : Bt mg) (C : Ct K w mg) {f : Addr} {fd : FuncData} (F : Fun K "_law_bag" "_law_bag" s__law_bag f fd) : FnG P w K mg base 1 f fd ["script"] m__law_bag :=
  fn_g F sc__law_bag rfl rfl fun cdv A outer s H hr => by
    have nd := sc__law_bag.nd
    exact (dss_cons (ds_set 1 nd rfl (by first | exact Or.inl rfl | exact Or.inr rfl) (de_dict3 (by decide +kernel) (by decide +kernel) (by decide +kernel) (de_lstX false da_nil) (de_addX false (de_int) (de_len (by rfl) B.h_len (da_cons (de_slX true (de_v 0) dp_none (dp_some (de_int))) da_nil))) (de_int)))
    (dss_cons (ds_for [2] PassesOwn.never hr.calm (di_seq (de_slX true (de_v 0) dp_none (dp_some (de_int)))) (dg_name [2] 2 nd rfl (by first | exact Or.inl rfl | exact Or.inr rfl) (by decide)) (dss_cons (ds_if (dt_ge (de_abs (by rfl) B.h_abs (da_cons (de_v 2) da_nil)) (de_pow (de_int) (de_int))) (dss_one (ds_put hr (de_v 1) (de_str) (de_addX false (de_lstX true (da_cons (de_abs (by rfl) B.h_abs (da_cons (de_v 2) da_nil)) da_nil)) (de_ix hr (de_v 1) (de_str))))) dss_nil)
    (dss_cons (ds_set 3 nd rfl (by first | exact Or.inl rfl | exact Or.inr rfl) (de_addX true (de_mul (de_int) (de_abs (by rfl) B.h_abs (da_cons (de_v 2) da_nil))) (de_toInt (by rfl) B.h_int (da_cons (de_lt (de_v 2) (de_int)) da_nil))))
    (dss_one (ds_put hr (de_v 1) (de_str) (de_mod (de_toInt (by rfl) B.h_int (da_cons (de_addX true (de_mul (de_addX true (de_addX true (de_ix hr (de_v 1) (de_str)) (de_v 3)) (de_int)) (de_int)) (de_int)) da_nil)) (de_int)))))))
    (dss_one (ds_ret (de_v 1)))))
/-! ### _law_take -/
def m__law_take : Fn := mkFn 2 4 (mSeq (mIte (mB (m2 ltD (mV 1) (mC (.int 2)))) (mRet (mC (.int 0))) mSkip)
  (mSeq (mIte (mB (m2 neD (m2 ixD (mV 0) (mC (.str "great"))) (mLstX true mNil))) (mSeq (mAsg (mMeth0 popD (m2 ixD (mV 0) (mC (.str "great")))) (gN 2))
  (mSeq (mIte (mB (m2 geD (mV 2) (mV 1))) (mDo (mMeth1 appD (m2 ixD (mV 0) (mC (.str "great"))) (mCons (m2 fdivD (mV 2) (mV 1)) mNil))) mSkip)
  (mRet (m2 modD (m1 toIntD (mCons (mV 2) mNil)) (mV 1))))) mSkip)
  (mSeq (mPut (m2 (addX false) (m2 ixD (mV 0) (mC (.str "turn"))) (mC (.int 1))) (mV 0) (mC (.str "turn")))
  (mSeq (mAsg (m2 modD (m1 toIntD (mCons (m2 (addX true) (m2 mulD (m2 ixD (mV 0) (mC (.str "seed"))) (mC (.int 3935559000370003845))) (m2 mulD (mC (.int 2691343689449507681)) (m2 ixD (mV 0) (mC (.str "turn"))))) mNil)) (mC (.int 9223372036854775783))) (gN 3))
  (mSeq (mPut (mV 3) (mV 0) (mC (.str "seed")))
  (mRet (m2 modD (m1 toIntD (mCons (m2 fdivW (mV 3) (mC (.int 1073741824))) mNil)) (mV 1))))))))
def z__law_take : Fn := gcZ m__law_take
theorem sc__law_take : FnScope ["bag", "many", "whole", "seed"] ["bag", "many"] (defScope s__law_take) := ⟨rfl, rfl, rfl, by decide +kernel, rfl, by decide +kernel, by decide +kernel⟩
theorem ok__law_take {P : Program} {w : World} {K : PySem.W.Frag} {mg : Str → Option Value} {base : Heap} (B : Bt mg) (C : Ct K w mg) {f : Addr} {fd : FuncData} (F : Fun K "_law_take" "_law_take" s__law_take f fd) : FnG P w K mg base 1 f fd ["bag", "many"] m__law_take :=
  fn_g F sc__law_take rfl rfl fun cdv A outer s H hr => by
    have nd := sc__law_take.nd
    exact (dss_cons (ds_if (dt_lt (de_v 1) (de_int)) (dss_one (ds_ret (de_int))) dss_nil)
    (dss_cons (ds_if (dt_ne hr (de_ix hr (de_v 0) (de_str)) (de_lstX true da_nil)) (dss_cons (ds_set 2 nd rfl (by first | exact Or.inl rfl | exact Or.inr rfl) (de_pop (de_ix hr (de_v 0) (de_str))))
    (dss_cons (ds_if (dt_ge (de_v 2) (de_v 1)) (dss_one (ds_do (de_append (de_ix hr (de_v 0) (de_str)) (da_cons (de_fdiv (de_v 2) (de_v 1)) da_nil)))) dss_nil)
    (dss_one (ds_ret (de_mod (de_toInt (by rfl) B.h_int (da_cons (de_v 2) da_nil)) (de_v 1)))))) dss_nil)
    (dss_cons (ds_put hr (de_v 0) (de_str) (de_addX false (de_ix hr (de_v 0) (de_str)) (de_int)))
    (dss_cons (ds_set 3 nd rfl (by first | exact Or.inl rfl | exact Or.inr rfl) (de_mod (de_toInt (by rfl) B.h_int (da_cons (de_addX true (de_mul (de_ix hr (de_v 0) (de_str)) (de_int)) (de_mul (de_int) (de_ix hr (de_v 0) (de_str)))) da_nil)) (de_int)))
    (dss_cons (ds_put hr (de_v 0) (de_str) (de_v 3))
    (dss_one (ds_ret (de_mod (de_toInt (by rfl) B.h_int (da_cons (de_fdivW (de_v 3) (de_int)) da_nil)) (de_v 1)))))))))
/-! ### _law_pick -/
def m__law_pick : Fn := mkFn 2 2 (mRet (m2 ixD (mV 1) (mCall z__law_take (mCons (mV 0) (mCons (m1 lenD (mCons (mV 1) mNil)) mNil)))))
def z__law_pick : Fn := gcZ m__law_pick
theorem sc__law_pick : FnScope ["bag", "some"] ["bag", "some"] (defScope s__law_pick) := ⟨rfl, rfl, rfl, by decide +kernel, rfl, by decide +kernel, by decide +kernel⟩
theorem ok__law_pick {P : Program} {w : World} {K : PySem.W.Frag} {mg : Str → Option Value} {base : Heap} (B : Bt mg) (C : Ct K w mg) (k__law_take : Kn P w K mg base 1 "_law_take" s__law_take ["bag", "many"] m__law_take) {f : Addr} {fd : FuncData} (F : Fun K "_law_pick" "_law_pick" s__law_pick f fd) : FnG P w K mg base 2 f fd ["bag", "some"] m__law_pick :=
  fn_g F sc__law_pick rfl rfl fun cdv A outer s H hr => by
    have nd := sc__law_pick.nd
    exact (dss_one (ds_ret (de_ix hr (de_v 1) (de_z k__law_take hr (by decide) (by rfl) (da_cons (de_v 0) (da_cons (de_len (by rfl) B.h_len (da_cons (de_v 1) da_nil)) da_nil))))))
/-! ### _law_mixed -/
def m__law_mixed : Fn := mkFn 2 4 (mSeq (mPar 2 3 (mCons (m1 (listX false) (mCons (mV 1) mNil)) (mCons (mLstX false mNil) mNil)))
  (mSeq (mWhile (mB (m2 neD (mV 2) (mLstX true mNil))) (mDo (mMeth1 appD (mV 3) (mCons (mMeth1 popAtD (mV 2) (mCons (mCall z__law_take (mCons (mV 0) (mCons (m1 lenD (mCons (mV 2) mNil)) mNil))) mNil)) mNil))))
  (mRet (mV 3))))
def z__law_mixed : Fn := gcZ m__law_mixed
theorem sc__law_mixed : FnScope ["bag", "some", "left", "found"] ["bag", "some"] (defScope s__law_mixed) := ⟨rfl, rfl, rfl, by decide +kernel, rfl, by decide +kernel, by decide +kernel⟩
theorem ok__law_mixed {P : Program} {w : World} {K : PySem.W.Frag} {mg : Str → Option Value} {base : Heap} (B : Bt mg) (C : Ct K w mg) (k__law_take : Kn P w K mg base 1 "_law_take" s__law_take ["bag", "many"] m__law_take) {f : Addr} {fd : FuncData} (F : Fun K "_law_mixed" "_law_mixed" s__law_mixed f fd) : FnG P w K mg base 2 f fd ["bag", "some"] m__law_mixed :=
  fn_g F sc__law_mixed rfl rfl fun cdv A outer s H hr => by
    have nd := sc__law_mixed.nd
    exact (dss_cons (ds_par 2 3 hr.calm nd rfl rfl (by decide) rfl rfl (da_cons (de_listX false (by rfl) B.h_list (da_cons (de_v 1) da_nil)) (da_cons (de_lstX false da_nil) da_nil)) (by rfl))
    (dss_cons (ds_while PassesOwn.never (dt_ne hr (de_v 2) (de_lstX true da_nil)) (dss_one (ds_do (de_append (de_v 3) (da_cons (de_popAt (de_v 2) (da_cons (de_z k__law_take hr (by decide) (by rfl) (da_cons (de_v 0) (da_cons (de_len (by rfl) B.h_len (da_cons (de_v 2) da_nil)) da_nil))) da_nil)) da_nil)))))
    (dss_one (ds_ret (de_v 3)))))
/-! ### _law_pairs -/
def m__law_pairs : Fn := mkFn 2 4 (mSeq (mAsg (mLstX true mNil) (gN 2))
  (mSeq (mFor (mR1 (mCons (mV 0) mNil)) (gN 3) (mIte (mB (m2 neD (mV 3) (mV 1))) (mAsg (m2 (addX true) (mV 2) (mLstX true (mCons (mTup (mCons (mV 3) (mCons (mC (.str "a")) mNil))) (mCons (mTup (mCons (mV 3) (mCons (mC (.str "b")) mNil))) mNil)))) (gN 2)) mSkip))
  (mRet (mV 2))))
def z__law_pairs : Fn := gcZ m__law_pairs
theorem sc__law_pairs : FnScope ["n", "house", "found", "other"] ["n", "house"] (defScope s__law_pairs) := ⟨rfl, rfl, rfl, by decide +kernel, rfl, by decide +kernel, by decide +kernel⟩
theorem ok__law_pairs {P : Program} {w : World} {K : PySem.W.Frag} {mg : Str → Option Value} {base : Heap} (B : Bt mg) (C : Ct K w mg) {f : Addr} {fd : FuncData} (F : Fun K "_law_pairs" "_law_pairs" s__law_pairs f fd) : FnG P w K mg base 1 f fd ["n", "house"] m__law_pairs :=
  fn_g F sc__law_pairs rfl rfl fun cdv A outer s H hr => by
    have nd := sc__law_pairs.nd
    exact (dss_cons (ds_set 2 nd rfl (by first | exact Or.inl rfl | exact Or.inr rfl) (de_lstX true da_nil))
    (dss_cons (ds_for [3] PassesOwn.never hr.calm (di_r1 (by rfl) B.h_range (da_cons (de_v 0) da_nil)) (dg_name [3] 3 nd rfl (by first | exact Or.inl rfl | exact Or.inr rfl) (by decide)) (dss_one (ds_if (dt_ne hr (de_v 3) (de_v 1)) (dss_one (ds_set 2 nd rfl (by first | exact Or.inl rfl | exact Or.inr rfl) (de_addX true (de_v 2) (de_lstX true (da_cons (de_tup (da_cons (de_v 3) (da_cons (de_str) da_nil))) (da_cons (de_tup (da_cons (de_v 3) (da_cons (de_str) da_nil))) da_nil)))))) dss_nil)))
    (dss_one (ds_ret (de_v 2)))))
/-! ### _law_row_drawn -/
def m__law_row_drawn : Fn := mkFn 5 10 (mSeq (mAsg (mIf (mB (m2 eqD (m2 ixD (mV 3) (mV 4)) (mC (.str "open")))) (mTup (mCons (mC (.str "open")) (mCons (mC (.str "yes")) (mCons (mC (.str "off")) mNil)))) (mTup (mCons (mC (.str "yes")) (mCons (mC (.str "done")) (mCons (mC (.str "off")) mNil))))) (gN 5))
  (mSeq (mAsg (mCompX true [9] (mR2 (mCons (m2 (addX true) (mV 4) (mC (.int 1))) (mCons (m1 lenD (mCons (mV 3) mNil)) mNil))) (gN 9) (mB (m2 inD (m2 ixD (mV 3) (mV 9)) (mV 5))) (mV 9)) (gN 6))
  (mSeq (mIte (mB (m2 eqD (mV 6) (mLstX true mNil))) (mRet (mLstX true mNil)) mSkip)
  (mSeq (mAsg (m1 (sortX true) (mCons (mSlX true (mCall z__law_mixed (mCons (mV 0) (mCons (mCall z__law_pairs (mCons (mV 1) (mCons (mV 2) mNil))) mNil))) mNoP (mP (mCall z__law_pick (mCons (mV 0) (mCons (mLstX true (mCons (mC (.int 0)) (mCons (mC (.int 0)) (mCons (mC (.int 1)) (mCons (mC (.int 1)) (mCons (mC (.int 2)) mNil)))))) mNil))))) mNil)) (gN 7))
  (mSeq (mAsg (mSlX true (mCall z__law_mixed (mCons (mV 0) (mCons (mCall z__law_pairs (mCons (mV 1) (mCons (mV 2) mNil))) mNil))) mNoP (mP (mCall z__law_pick (mCons (mV 0) (mCons (mLstX true (mCons (mC (.int 0)) (mCons (mC (.int 1)) (mCons (mC (.int 1)) (mCons (mC (.int 2)) mNil))))) mNil))))) (gN 8))
  (mRet (mLstX true (mCons (mTup (mCons (mV 4) (mCons (m1 tupleD (mCons (mV 7) mNil)) (mCons (mCall z__law_pick (mCons (mV 0) (mCons (mV 6) mNil))) (mCons (m1 tupleD (mCons (mV 8) mNil)) (mCons (m2 eqD (mCall z__law_take (mCons (mV 0) (mCons (mC (.int 4)) mNil))) (mC (.int 0))) mNil)))))) mNil))))))))
def z__law_row_drawn : Fn := gcZ m__law_row_drawn
theorem sc__law_row_drawn : FnScope ["bag", "n", "house", "kinds", "state", "lets", "goals", "takes", "sends", "goal"] ["bag", "n", "house", "kinds", "state"] (defScope s__law_row_drawn) := ⟨rfl, rfl, rfl, by decide +kernel, rfl, by decide +kernel, by decide +kernel⟩
theorem ok__law_row_drawn {P : Program} {w : World} {K : PySem.W.Frag} {mg : Str → Option Value} {base : Heap} (B : Bt mg) (C : Ct K w mg) (k__law_take : Kn P w K mg base 1 "_law_take" s__law_take ["bag", "many"] m__law_take) (k__law_pick : Kn P w K mg base 2 "_law_pick" s__law_pick ["bag", "some"] m__law_pick) (k__law_mixed : Kn P w K mg base 2 "_law_mixed" s__law_mixed ["bag", "some"] m__law_mixed) (k__law_pairs : Kn P w K mg base 1 "_law_pairs" s__law_pairs ["n", "house"] m__law_pairs) {f : Addr} {fd : FuncData} (F : Fun K "_law_row_drawn" "_law_row_drawn" s__law_row_drawn f fd) : FnG P w K mg base 3 f fd ["bag", "n", "house", "kinds", "state"] m__law_row_drawn :=
  fn_g F sc__law_row_drawn rfl rfl fun cdv A outer s H hr => by
    have nd := sc__law_row_drawn.nd
    exact (dss_cons (ds_set 5 nd rfl (by first | exact Or.inl rfl | exact Or.inr rfl) (de_if (dt_eq hr (de_ix hr (de_v 3) (de_v 4)) (de_str)) (de_tup (da_cons (de_str) (da_cons (de_str) (da_cons (de_str) da_nil)))) (de_tup (da_cons (de_str) (da_cons (de_str) (da_cons (de_str) da_nil))))))
    (dss_cons (ds_compX true 6 [("goal", 9)] [9] rfl hr.calm nd rfl rfl (by rfl) (di_r2 (by rfl) B.h_range (da_cons (de_addX true (de_v 4) (de_int)) (da_cons (de_len (by rfl) B.h_len (da_cons (de_v 3) da_nil)) da_nil))) (by kernel_rfl) (fun _ _ _ _ _ => (dg_name [9] 9 nd rfl (by first | exact Or.inl rfl | exact Or.inr rfl) (by decide))) (fun _ _ _ _ _ => (dts_one (dt_in (RG.blk hr) (de_ix (RG.blk hr) (de_v 3) (de_v 9)) (de_v 5)))) (fun _ _ _ _ _ => (de_v 9)))
    (dss_cons (ds_if (dt_eq hr (de_v 6) (de_lstX true da_nil)) (dss_one (ds_ret (de_lstX true da_nil))) dss_nil)
    (dss_cons (ds_set 7 nd rfl (by first | exact Or.inl rfl | exact Or.inr rfl) (de_sortX true (by rfl) B.h_sorted (da_cons (de_slX true (de_z k__law_mixed hr (by decide) (by rfl) (da_cons (de_v 0) (da_cons (de_z k__law_pairs hr (by decide) (by rfl) (da_cons (de_v 1) (da_cons (de_v 2) da_nil))) da_nil))) dp_none (dp_some (de_z k__law_pick hr (by decide) (by rfl) (da_cons (de_v 0) (da_cons (de_lstX true (da_cons (de_int) (da_cons (de_int) (da_cons (de_int) (da_cons (de_int) (da_cons (de_int) da_nil)))))) da_nil))))) da_nil)))
    (dss_cons (ds_set 8 nd rfl (by first | exact Or.inl rfl | exact Or.inr rfl) (de_slX true (de_z k__law_mixed hr (by decide) (by rfl) (da_cons (de_v 0) (da_cons (de_z k__law_pairs hr (by decide) (by rfl) (da_cons (de_v 1) (da_cons (de_v 2) da_nil))) da_nil))) dp_none (dp_some (de_z k__law_pick hr (by decide) (by rfl) (da_cons (de_v 0) (da_cons (de_lstX true (da_cons (de_int) (da_cons (de_int) (da_cons (de_int) (da_cons (de_int) da_nil))))) da_nil))))))
    (dss_one (ds_ret (de_lstX true (da_cons (de_tup (da_cons (de_v 4) (da_cons (de_tuple (by rfl) B.h_tuple (da_cons (de_v 7) da_nil)) (da_cons (de_z k__law_pick hr (by decide) (by rfl) (da_cons (de_v 0) (da_cons (de_v 6) da_nil))) (da_cons (de_tuple (by rfl) B.h_tuple (da_cons (de_v 8) da_nil)) (da_cons (de_eq hr (de_z k__law_take hr (by decide) (by rfl) (da_cons (de_v 0) (da_cons (de_int) da_nil))) (de_int)) da_nil)))))) da_nil)))))))))
/-! ### _law_book_drawn -/
def m__law_book_drawn : Fn := mkFn 4 10 (mSeq (mAsg (mLstX true (mCons (mTup (mCons (mC (.str "open")) (mCons (mC (.str "yes")) (mCons (mC (.str "done")) (mCons (mC (.str "off")) mNil))))) (mCons (mTup (mCons (mC (.str "yes")) (mCons (mC (.str "done")) (mCons (mC (.str "off")) mNil)))) (mCons (mTup (mCons (mC (.str "open")) (mCons (mC (.str "yes")) (mCons (mC (.str "off")) (mCons (mC (.str "done")) mNil))))) (mCons (mTup (mCons (mC (.str "yes")) (mCons (mC (.str "done")) mNil))) mNil))))) (gN 4))
  (mSeq (mAsg (m2 (addX true) (mV 4) (mLstX true (mCons (mTup (mCons (mC (.str "yes")) (mCons (mC (.str "yes")) (mCons (mC (.str "done")) (mCons (mC (.str "off")) mNil))))) (mCons (mTup (mCons (mC (.str "open")) (mCons (mC (.str "off")) mNil))) (mCons (mTup (mCons (mC (.str "open")) (mCons (mC (.str "yes")) (mCons (mC (.str "done")) mNil)))) mNil))))) (gN 4))
  (mSeq (mAsg (mTup (mCons (mCall z__law_pick (mCons (mV 0) (mCons (mV 4) mNil))) (mCons (mLstX true mNil) mNil))) (gT (gsCons (gN 5) (gsCons (gN 6) gsNil))))
  (mSeq (mAsg (mCompX true [9] (mR1 (mCons (m2 subD (m1 lenD (mCons (mV 5) mNil)) (mC (.int 1))) mNil)) (gN 9) (mB (m2 inD (m2 ixD (mV 5) (mV 9)) (mTup (mCons (mC (.str "open")) (mCons (mC (.str "yes")) mNil))))) (mV 9)) (gN 7))
  (mSeq (mFor (mR1 (mCons (mV 3) mNil)) (gN 8) (mAsg (m2 (addX true) (mV 6) (mCall z__law_row_drawn (mCons (mV 0) (mCons (mV 1) (mCons (mV 2) (mCons (mV 5) (mCons (mIf (mB (m2 eqD (mV 8) (mC (.int 0)))) (m2 ixD (mV 7) (mC (.int 0))) (mCall z__law_pick (mCons (mV 0) (mCons (mV 7) mNil)))) mNil))))))) (gN 6)))
  (mRet (mTup (mCons (mV 5) (mCons (m1 tupleD (mCons (mV 6) mNil)) mNil)))))))))
def z__law_book_drawn : Fn := gcZ m__law_book_drawn
theorem sc__law_book_drawn : FnScope ["bag", "n", "house", "many", "menus", "kinds", "rows", "starts", "turn", "state"] ["bag", "n", "house", "many"] (defScope s__law_book_drawn) := ⟨rfl, rfl, rfl, by decide +kernel, rfl, by decide +kernel, by decide +kernel⟩
theorem ok__law_book_drawn {P : Program} {w : World} {K : PySem.W.Frag} {mg : Str → Option Value} {base : Heap} (B : Bt mg) (C : Ct K w mg) (k__law_pick : Kn P w K mg base 2 "_law_pick" s__law_pick ["bag", "some"] m__law_pick) (k__law_row_drawn : Kn P w K mg base 3 "_law_row_drawn" s__law_row_drawn ["bag", "n", "house", "kinds", "state"] m__law_row_drawn) {f : Addr} {fd : FuncData} (F : Fun K "_law_book_drawn" "_law_book_drawn" s__law_book_drawn f fd) : FnG P w K mg base 4 f fd ["bag", "n", "house", "many"] m__law_book_drawn :=
  fn_g F sc__law_book_drawn rfl rfl fun cdv A outer s H hr => by
    have nd := sc__law_book_drawn.nd
    exact (dss_cons (ds_set 4 nd rfl (by first | exact Or.inl rfl | exact Or.inr rfl) (de_lstX true (da_cons (de_tup (da_cons (de_str) (da_cons (de_str) (da_cons (de_str) (da_cons (de_str) da_nil))))) (da_cons (de_tup (da_cons (de_str) (da_cons (de_str) (da_cons (de_str) da_nil)))) (da_cons (de_tup (da_cons (de_str) (da_cons (de_str) (da_cons (de_str) (da_cons (de_str) da_nil))))) (da_cons (de_tup (da_cons (de_str) (da_cons (de_str) da_nil))) da_nil))))))
    (dss_cons (ds_set 4 nd rfl (by first | exact Or.inl rfl | exact Or.inr rfl) (de_addX true (de_v 4) (de_lstX true (da_cons (de_tup (da_cons (de_str) (da_cons (de_str) (da_cons (de_str) (da_cons (de_str) da_nil))))) (da_cons (de_tup (da_cons (de_str) (da_cons (de_str) da_nil))) (da_cons (de_tup (da_cons (de_str) (da_cons (de_str) (da_cons (de_str) da_nil)))) da_nil))))))
    (dss_cons (ds_asg [5, 6] (de_tup (da_cons (de_z k__law_pick hr (by decide) (by rfl) (da_cons (de_v 0) (da_cons (de_v 4) da_nil))) (da_cons (de_lstX true da_nil) da_nil))) (dg_tup hr.calm (dgs_cons (dg_name [5, 6] 5 nd rfl (by first | exact Or.inl rfl | exact Or.inr rfl) (by decide)) (dgs_cons (dg_name [5, 6] 6 nd rfl (by first | exact Or.inl rfl | exact Or.inr rfl) (by decide)) (dgs_nil [5, 6])))))
    (dss_cons (ds_compX true 7 [("state", 9)] [9] rfl hr.calm nd rfl rfl (by rfl) (di_r1 (by rfl) B.h_range (da_cons (de_sub (de_len (by rfl) B.h_len (da_cons (de_v 5) da_nil)) (de_int)) da_nil)) (by kernel_rfl) (fun _ _ _ _ _ => (dg_name [9] 9 nd rfl (by first | exact Or.inl rfl | exact Or.inr rfl) (by decide))) (fun _ _ _ _ _ => (dts_one (dt_in (RG.blk hr) (de_ix (RG.blk hr) (de_v 5) (de_v 9)) (de_tup (da_cons (de_str) (da_cons (de_str) da_nil)))))) (fun _ _ _ _ _ => (de_v 9)))
    (dss_cons (ds_for [8] PassesOwn.never hr.calm (di_r1 (by rfl) B.h_range (da_cons (de_v 3) da_nil)) (dg_name [8] 8 nd rfl (by first | exact Or.inl rfl | exact Or.inr rfl) (by decide)) (dss_one (ds_set 6 nd rfl (by first | exact Or.inl rfl | exact Or.inr rfl) (de_addX true (de_v 6) (de_z k__law_row_drawn hr (by decide) (by rfl) (da_cons (de_v 0) (da_cons (de_v 1) (da_cons (de_v 2) (da_cons (de_v 5) (da_cons (de_if (dt_eq hr (de_v 8) (de_int)) (de_ix hr (de_v 7) (de_int)) (de_z k__law_pick hr (by decide) (by rfl) (da_cons (de_v 0) (da_cons (de_v 7) da_nil)))) da_nil))))))))))
    (dss_one (ds_ret (de_tup (da_cons (de_v 5) (da_cons (de_tuple (by rfl) B.h_tuple (da_cons (de_v 6) da_nil)) da_nil))))))))))
/-! ### _law_mend_book -/
def m__law_mend_book : Fn := mkFn 4 17 (mSeq (mAsg (mV 2) (gT (gsCons (gN 4) (gsCons (gN 5) gsNil))))
  (mSeq (mAsg (mCompX true [14, 15] (mEnum (mCons (mV 4) mNil)) (gT (gsCons (gN 14) (gsCons (gN 15) gsNil))) (mB (m2 eqD (mV 15) (mC (.str "done")))) (mV 14)) (gN 6))
  (mSeq (mAsg (mCompX true [16] (mR1 (mCons (mV 0) mNil)) (gN 16) (mB (m2 neD (mV 16) (mV 1))) (mV 16)) (gN 7))
  (mSeq (mPar 8 9 (mCons (m1 tupleD (mCons (mCompX true [16] (mI (mV 7)) (gN 16) mYes (mTup (mCons (mV 16) (mCons (mV 3) mNil)))) mNil)) (mCons (m1 tupleD (mCons (mCompX true [16] (mI (mV 7)) (gN 16) mYes (mTup (mCons (mV 16) (mCons (mV 3) mNil)))) mNil)) mNil)))
  (mSeq (mPar 10 11 (mCons (m2 (addX true) (mCompX true [15] (mI (mV 4)) (gN 15) mYes (mIf (mB (m2 eqD (mV 15) (mC (.str "done")))) (mC (.str "yes")) (mV 15))) (m2 mulB (mLstX false (mCons (mC (.str "done")) mNil)) (m1 lenD (mCons (mV 6) mNil)))) (mCons (mLstX false mNil) mNil)))
  (mSeq (mFor (mI (mV 5)) (gN 12) (mDo (mMeth1 appD (mV 11) (mCons (mIf (mB (m2 inD (m2 ixD (mV 12) (mC (.int 2))) (mV 6))) (mTup (mCons (m2 ixD (mV 12) (mC (.int 0))) (mCons (m2 ixD (mV 12) (mC (.int 1))) (mCons (m2 ixD (mV 12) (mC (.int 2))) (mCons (m2 (addX true) (m2 ixD (mV 12) (mC (.int 3))) (mV 8)) (mCons (mC (.bl false)) mNil)))))) (mV 12)) mNil))))
  (mSeq (mFor (mEnum (mCons (mV 6) mNil)) (gT (gsCons (gN 13) (gsCons (gN 14) gsNil))) (mDo (mMeth1 appD (mV 11) (mCons (mTup (mCons (mV 14) (mCons (mV 9) (mCons (m2 (addX true) (m1 lenD (mCons (mV 4) mNil)) (mV 13)) (mCons (mTup mNil) (mCons (mC (.bl false)) mNil)))))) mNil))))
  (mRet (mTup (mCons (m1 tupleD (mCons (mV 10) mNil)) (mCons (m1 tupleD (mCons (mV 11) mNil)) mNil)))))))))))
def z__law_mend_book : Fn := gcZ m__law_mend_book
theorem sc__law_mend_book : FnScope ["n", "house", "book", "word", "kinds", "rows", "ends", "others", "sends", "takes", "fresh", "found", "row", "place", "state", "name", "other"] ["n", "house", "book", "word"] (defScope s__law_mend_book) := ⟨rfl, rfl, rfl, by decide +kernel, rfl, by decide +kernel, by decide +kernel⟩
theorem ok__law_mend_book {P : Program} {w : World} {K : PySem.W.Frag} {mg : Str → Option Value} {base : Heap} (B : Bt mg) (C : Ct K w mg) {f : Addr} {fd : FuncData} (F : Fun K "_law_mend_book" "_law_mend_book" s__law_mend_book f fd) : FnG P w K mg base 1 f fd ["n", "house", "book", "word"] m__law_mend_book :=
  fn_g F sc__law_mend_book rfl rfl fun cdv A outer s H hr => by
    have nd := sc__law_mend_book.nd
    exact (dss_cons (ds_asg [4, 5] (de_v 2) (dg_tup hr.calm (dgs_cons (dg_name [4, 5] 4 nd rfl (by first | exact Or.inl rfl | exact Or.inr rfl) (by decide)) (dgs_cons (dg_name [4, 5] 5 nd rfl (by first | exact Or.inl rfl | exact Or.inr rfl) (by decide)) (dgs_nil [4, 5])))))
    (dss_cons (ds_compX true 6 [("state", 14), ("name", 15)] [14, 15] rfl hr.calm nd rfl rfl (by rfl) (di_enum (by rfl) B.h_enumerate (da_cons (de_v 4) da_nil)) (by kernel_rfl) (fun _ _ _ _ _ => (dg_tup (RG.blk hr).calm (dgs_cons (dg_name [14, 15] 14 nd rfl (by first | exact Or.inl rfl | exact Or.inr rfl) (by decide)) (dgs_cons (dg_name [14, 15] 15 nd rfl (by first | exact Or.inl rfl | exact Or.inr rfl) (by decide)) (dgs_nil [14, 15]))))) (fun _ _ _ _ _ => (dts_one (dt_eq (RG.blk hr) (de_v 15) (de_str)))) (fun _ _ _ _ _ => (de_v 14)))
    (dss_cons (ds_compX true 7 [("other", 16)] [16] rfl hr.calm nd rfl rfl (by rfl) (di_r1 (by rfl) B.h_range (da_cons (de_v 0) da_nil)) (by kernel_rfl) (fun _ _ _ _ _ => (dg_name [16] 16 nd rfl (by first | exact Or.inl rfl | exact Or.inr rfl) (by decide))) (fun _ _ _ _ _ => (dts_one (dt_ne (RG.blk hr) (de_v 16) (de_v 1)))) (fun _ _ _ _ _ => (de_v 16)))
    (dss_cons (ds_par 8 9 hr.calm nd rfl rfl (by decide) rfl rfl (da_cons (de_tuple (by rfl) B.h_tuple (da_cons (de_compX true [("other", 16)] [16] rfl hr.calm nd (di_seq (de_v 7)) (by kernel_rfl) (fun _ _ _ _ _ => (dg_name [16] 16 nd rfl (by first | exact Or.inl rfl | exact Or.inr rfl) (by decide))) (fun _ _ _ _ _ => dts_nil) (fun _ _ _ _ _ => (de_tup (da_cons (de_v 16) (da_cons (de_v 3) da_nil))))) da_nil)) (da_cons (de_tuple (by rfl) B.h_tuple (da_cons (de_compX true [("other", 16)] [16] rfl hr.calm nd (di_seq (de_v 7)) (by kernel_rfl) (fun _ _ _ _ _ => (dg_name [16] 16 nd rfl (by first | exact Or.inl rfl | exact Or.inr rfl) (by decide))) (fun _ _ _ _ _ => dts_nil) (fun _ _ _ _ _ => (de_tup (da_cons (de_v 16) (da_cons (de_v 3) da_nil))))) da_nil)) da_nil)) (by rfl))
    (dss_cons (ds_par 10 11 hr.calm nd rfl rfl (by decide) rfl rfl (da_cons (de_addX true (de_compX true [("name", 15)] [15] rfl hr.calm nd (di_seq (de_v 4)) (by kernel_rfl) (fun _ _ _ _ _ => (dg_name [15] 15 nd rfl (by first | exact Or.inl rfl | exact Or.inr rfl) (by decide))) (fun _ _ _ _ _ => dts_nil) (fun _ _ _ _ _ => (de_if (dt_eq (RG.blk hr) (de_v 15) (de_str)) (de_str) (de_v 15)))) (de_mulB (de_lstX false (da_cons (de_str) da_nil)) (de_len (by rfl) B.h_len (da_cons (de_v 6) da_nil)))) (da_cons (de_lstX false da_nil) da_nil)) (by rfl))
    (dss_cons (ds_for [12] PassesOwn.never hr.calm (di_seq (de_v 5)) (dg_name [12] 12 nd rfl (by first | exact Or.inl rfl | exact Or.inr rfl) (by decide)) (dss_one (ds_do (de_append (de_v 11) (da_cons (de_if (dt_in hr (de_ix hr (de_v 12) (de_int)) (de_v 6)) (de_tup (da_cons (de_ix hr (de_v 12) (de_int)) (da_cons (de_ix hr (de_v 12) (de_int)) (da_cons (de_ix hr (de_v 12) (de_int)) (da_cons (de_addX true (de_ix hr (de_v 12) (de_int)) (de_v 8)) (da_cons (de_bl) da_nil)))))) (de_v 12)) da_nil)))))
    (dss_cons (ds_for [13, 14] PassesOwn.never hr.calm (di_enum (by rfl) B.h_enumerate (da_cons (de_v 6) da_nil)) (dg_tup hr.calm (dgs_cons (dg_name [13, 14] 13 nd rfl (by first | exact Or.inl rfl | exact Or.inr rfl) (by decide)) (dgs_cons (dg_name [13, 14] 14 nd rfl (by first | exact Or.inl rfl | exact Or.inr rfl) (by decide)) (dgs_nil [13, 14])))) (dss_one (ds_do (de_append (de_v 11) (da_cons (de_tup (da_cons (de_v 14) (da_cons (de_v 9) (da_cons (de_addX true (de_len (by rfl) B.h_len (da_cons (de_v 4) da_nil)) (de_v 13)) (da_cons (de_tup da_nil) (da_cons (de_bl) da_nil)))))) da_nil)))))
    (dss_one (ds_ret (de_tup (da_cons (de_tuple (by rfl) B.h_tuple (da_cons (de_v 10) da_nil)) (da_cons (de_tuple (by rfl) B.h_tuple (da_cons (de_v 11) da_nil)) da_nil))))))))))))
/-! ### _law_mend -/
def m__law_mend : Fn := mkFn 2 4 (mRet (m1 tupleD (mCons (mCompX true [2, 3] (mEnum (mCons (mV 0) mNil)) (gT (gsCons (gN 2) (gsCons (gN 3) gsNil))) mYes (mCall z__law_mend_book (mCons (m1 lenD (mCons (mV 0) mNil)) (mCons (mV 2) (mCons (mV 3) (mCons (mV 1) mNil)))))) mNil)))
def z__law_mend : Fn := gcZ m__law_mend
theorem sc__law_mend : FnScope ["deal", "word", "house", "book"] ["deal", "word"] (defScope s__law_mend) := ⟨rfl, rfl, rfl, by decide +kernel, rfl, by decide +kernel, by decide +kernel⟩
theorem ok__law_mend {P : Program} {w : World} {K : PySem.W.Frag} {mg : Str → Option Value} {base : Heap} (B : Bt mg) (C : Ct K w mg) (k__law_mend_book : Kn P w K mg base 1 "_law_mend_book" s__law_mend_book ["n", "house", "book", "word"] m__law_mend_book) {f : Addr} {fd : FuncData} (F : Fun K "_law_mend" "_law_mend" s__law_mend f fd) : FnG P w K mg base 2 f fd ["deal", "word"] m__law_mend :=
  fn_g F sc__law_mend rfl rfl fun cdv A outer s H hr => by
    have nd := sc__law_mend.nd
    exact (dss_one (ds_ret (de_tuple (by rfl) B.h_tuple (da_cons (de_compX true [("house", 2), ("book", 3)] [2, 3] rfl hr.calm nd (di_enum (by rfl) B.h_enumerate (da_cons (de_v 0) da_nil)) (by kernel_rfl) (fun _ _ _ _ _ => (dg_tup (RG.blk hr).calm (dgs_cons (dg_name [2, 3] 2 nd rfl (by first | exact Or.inl rfl | exact Or.inr rfl) (by decide)) (dgs_cons (dg_name [2, 3] 3 nd rfl (by first | exact Or.inl rfl | exact Or.inr rfl) (by decide)) (dgs_nil [2, 3]))))) (fun _ _ _ _ _ => dts_nil) (fun _ _ _ _ _ => (de_z k__law_mend_book (RG.blk hr) (by decide) (by rfl) (da_cons (de_len (by rfl) B.h_len (da_cons (de_v 0) da_nil)) (da_cons (de_v 2) (da_cons (de_v 3) (da_cons (de_v 1) da_nil))))))) da_nil))))
/-! ### _law_wide_book -/
def m__law_wide_book : Fn := mkFn 3 9 (mSeq (mAsg (mLstX true (mCons (mTup (mCons (mC (.str "yes")) (mCons (mC (.str "done")) (mCons (mC (.str "yes")) (mCons (mC (.str "done")) mNil))))) (mCons (mTup (mCons (mC (.str "open")) (mCons (mC (.str "yes")) (mCons (mC (.str "yes")) (mCons (mC (.str "done")) (mCons (mC (.str "done")) mNil)))))) (mCons (mTup (mCons (mC (.str "open")) (mCons (mC (.str "off")) mNil))) (mCons (mTup (mCons (mC (.str "yes")) mNil)) mNil))))) (gN 3))
  (mSeq (mAsg (mCall z__law_pick (mCons (mV 0) (mCons (mV 3) mNil))) (gN 4))
  (mSeq (mIte (mB (m2 eqD (mCall z__law_take (mCons (mV 0) (mCons (mC (.int 2)) mNil))) (mC (.int 0)))) (mRet (mCall z__law_book_drawn (mCons (mV 0) (mCons (mV 1) (mCons (mV 2) (mCons (mCall z__law_take (mCons (mV 0) (mCons (mC (.int 5)) mNil))) mNil)))))) mSkip)
  (mSeq (mPar 5 6 (mCons (mLstX true mNil) (mCons (mCompX true [8] (mR1 (mCons (m2 subD (m1 lenD (mCons (mV 4) mNil)) (mC (.int 1))) mNil)) (gN 8) (mB (m2 inD (m2 ixD (mV 4) (mV 8)) (mTup (mCons (mC (.str "open")) (mCons (mC (.str "yes")) mNil))))) (mV 8)) mNil)))
  (mSeq (mFor (mR1 (mCons (mIf (mB (m2 neD (mV 6) (mLstX true mNil))) (mCall z__law_take (mCons (mV 0) (mCons (mC (.int 5)) mNil))) (mC (.int 0))) mNil)) (gN 7) (mAsg (m2 (addX true) (mV 5) (mCall z__law_row_drawn (mCons (mV 0) (mCons (mV 1) (mCons (mV 2) (mCons (mV 4) (mCons (mCall z__law_pick (mCons (mV 0) (mCons (mV 6) mNil))) mNil))))))) (gN 5)))
  (mRet (mTup (mCons (mV 4) (mCons (m1 tupleD (mCons (mV 5) mNil)) mNil)))))))))
def z__law_wide_book : Fn := gcZ m__law_wide_book
theorem sc__law_wide_book : FnScope ["bag", "n", "house", "menus", "kinds", "rows", "starts", "turn", "state"] ["bag", "n", "house"] (defScope s__law_wide_book) := ⟨rfl, rfl, rfl, by decide +kernel, rfl, by decide +kernel, by decide +kernel⟩
theorem ok__law_wide_book {P : Program} {w : World} {K : PySem.W.Frag} {mg : Str → Option Value} {base : Heap} (B : Bt mg) (C : Ct K w mg) (k__law_take : Kn P w K mg base 1 "_law_take" s__law_take ["bag", "many"] m__law_take) (k__law_pick : Kn P w K mg base 2 "_law_pick" s__law_pick ["bag", "some"] m__law_pick) (k__law_row_drawn : Kn P w K mg base 3 "_law_row_drawn" s__law_row_drawn ["bag", "n", "house", "kinds", "state"] m__law_row_drawn) (k__law_book_drawn : Kn P w K mg base 4 "_law_book_drawn" s__law_book_drawn ["bag", "n", "house", "many"] m__law_book_drawn) {f : Addr} {fd : FuncData} (F : Fun K "_law_wide_book" "_law_wide_book" s__law_wide_book f fd) : FnG P w K mg base 5 f fd ["bag", "n", "house"] m__law_wide_book :=
  fn_g F sc__law_wide_book rfl rfl fun cdv A outer s H hr => by
    have nd := sc__law_wide_book.nd
    exact (dss_cons (ds_set 3 nd rfl (by first | exact Or.inl rfl | exact Or.inr rfl) (de_lstX true (da_cons (de_tup (da_cons (de_str) (da_cons (de_str) (da_cons (de_str) (da_cons (de_str) da_nil))))) (da_cons (de_tup (da_cons (de_str) (da_cons (de_str) (da_cons (de_str) (da_cons (de_str) (da_cons (de_str) da_nil)))))) (da_cons (de_tup (da_cons (de_str) (da_cons (de_str) da_nil))) (da_cons (de_tup (da_cons (de_str) da_nil)) da_nil))))))
    (dss_cons (ds_set 4 nd rfl (by first | exact Or.inl rfl | exact Or.inr rfl) (de_z k__law_pick hr (by decide) (by rfl) (da_cons (de_v 0) (da_cons (de_v 3) da_nil))))
    (dss_cons (ds_if (dt_eq hr (de_z k__law_take hr (by decide) (by rfl) (da_cons (de_v 0) (da_cons (de_int) da_nil))) (de_int)) (dss_one (ds_ret (de_z k__law_book_drawn hr (by decide) (by rfl) (da_cons (de_v 0) (da_cons (de_v 1) (da_cons (de_v 2) (da_cons (de_z k__law_take hr (by decide) (by rfl) (da_cons (de_v 0) (da_cons (de_int) da_nil))) da_nil))))))) dss_nil)
    (dss_cons (ds_par 5 6 hr.calm nd rfl rfl (by decide) rfl rfl (da_cons (de_lstX true da_nil) (da_cons (de_compX true [("state", 8)] [8] rfl hr.calm nd (di_r1 (by rfl) B.h_range (da_cons (de_sub (de_len (by rfl) B.h_len (da_cons (de_v 4) da_nil)) (de_int)) da_nil)) (by kernel_rfl) (fun _ _ _ _ _ => (dg_name [8] 8 nd rfl (by first | exact Or.inl rfl | exact Or.inr rfl) (by decide))) (fun _ _ _ _ _ => (dts_one (dt_in (RG.blk hr) (de_ix (RG.blk hr) (de_v 4) (de_v 8)) (de_tup (da_cons (de_str) (da_cons (de_str) da_nil)))))) (fun _ _ _ _ _ => (de_v 8))) da_nil)) (by rfl))
    (dss_cons (ds_for [7] PassesOwn.never hr.calm (di_r1 (by rfl) B.h_range (da_cons (de_if (dt_ne hr (de_v 6) (de_lstX true da_nil)) (de_z k__law_take hr (by decide) (by rfl) (da_cons (de_v 0) (da_cons (de_int) da_nil))) (de_int)) da_nil)) (dg_name [7] 7 nd rfl (by first | exact Or.inl rfl | exact Or.inr rfl) (by decide)) (dss_one (ds_set 5 nd rfl (by first | exact Or.inl rfl | exact Or.inr rfl) (de_addX true (de_v 5) (de_z k__law_row_drawn hr (by decide) (by rfl) (da_cons (de_v 0) (da_cons (de_v 1) (da_cons (de_v 2) (da_cons (de_v 4) (da_cons (de_z k__law_pick hr (by decide) (by rfl) (da_cons (de_v 0) (da_cons (de_v 6) da_nil))) da_nil))))))))))
    (dss_one (ds_ret (de_tup (da_cons (de_v 4) (da_cons (de_tuple (by rfl) B.h_tuple (da_cons (de_v 5) da_nil)) da_nil))))))))))
/-! ### law -/
def m_law : Fn := mkFn 1 10 (mSeq (mAsg (mCall m__law_bag (mCons (mV 0) mNil)) (gN 1))
  (mSeq (mFor (mR1 (mCons (mC (.int 10)) mNil)) (gN 2) (mSeq (mAsg (m2 (addX true) (mC (.int 2)) (mCall z__law_take (mCons (mV 1) (mCons (mC (.int 3)) mNil)))) (gN 3))
  (mSeq (mAsg (m1 tupleD (mCons (mCompX true [9] (mR1 (mCons (mV 3) mNil)) (gN 9) mYes (mCall z__law_wide_book (mCons (mV 1) (mCons (mV 3) (mCons (mV 9) mNil))))) mNil)) (gN 4))
  (mSeq (mAsg (mCall z__law_pick (mCons (mV 1) (mCons (mLstX true (mCons (mC (.str "ready")) (mCons (mC (.str "z")) (mCons (mC (.str "set")) (mCons (mC (.str "abcdef")) (mCons (mC (.str "ab")) (mCons (mC (.str "zzzzzz")) mNil))))))) mNil))) (gN 5))
  (mSeq (mPar 6 7 (mCons (m1 reprX (mCons (mV 4) mNil)) (mCons (mCall z__law_mend (mCons (mV 4) (mCons (mV 5) mNil))) mNil)))
  (mSeq (mAsg (mIf (mB (m2 eqD (m2 modD (mV 2) (mC (.int 3))) (mC (.int 1)))) (mCallK z_mended [1, 0] mNil (mCons (mV 5) (mCons (mV 4) mNil))) (mCall z_mended (mCons (mV 4) (mCons (mV 5) mNil)))) (gN 8))
  (mSeq (mIte (mOr (mB (m2 neD (m1 reprX (mCons (mV 8) mNil)) (m1 reprX (mCons (mV 7) mNil)))) (mOr (mB (m2 neD (m1 reprX (mCons (mCall z_mended (mCons (mV 4) (mCons (mV 5) mNil))) mNil)) (m1 reprX (mCons (mV 7) mNil)))) (mB (m2 neD (m1 reprX (mCons (mV 4) mNil)) (mV 6))))) (mRet (mC (.bl false))) mSkip)
  (mIte (mB (m2 notND (mCall z_agreement_error (mCons (mV 8) mNil)) (mC .non))) (mRet (mC (.bl false))) mSkip))))))))
  (mRet (mC (.bl true)))))
def z_law : Fn := gcZ m_law
theorem sc_law : FnScope ["script", "bag", "turn", "n", "deal", "word", "kept", "due", "told", "house"] ["script"] (defScope s_law) := ⟨rfl, rfl, rfl, by decide +kernel, rfl, by decide +kernel, by decide +kernel⟩
theorem ok_law {P : Program} {w : World} {K : PySem.W.Frag} {mg : Str → Option Value} {base : Heap} (B : Bt mg) (C : Ct K w mg) (k_agreement_error : Kn P w K mg base 7 "agreement_error" s_agreement_error ["value"] m_agreement_error) (k_mended : Kn P w K mg base 3 "mended" s_mended ["agreement", "word"] m_mended) (k__law_bag : Kn P w K mg base 1 "_law_bag" s__law_bag ["script"] m__law_bag) (k__law_take : Kn P w K mg base 1 "_law_take" s__law_take ["bag", "many"] m__law_take) (k__law_pick : Kn P w K mg base 2 "_law_pick" s__law_pick ["bag", "some"] m__law_pick) (k__law_mend : Kn P w K mg base 2 "_law_mend" s__law_mend ["deal", "word"] m__law_mend) (k__law_wide_book : Kn P w K mg base 5 "_law_wide_book" s__law_wide_book ["bag", "n", "house"] m__law_wide_book) {f : Addr} {fd : FuncData} (F : Fun K "law" "law" s_law f fd) : FnG P w K mg base 8 f fd ["script"] m_law :=
  fn_g F sc_law rfl rfl fun cdv A outer s H hr => by
    have nd := sc_law.nd
    exact (dss_cons (ds_set 1 nd rfl (by first | exact Or.inl rfl | exact Or.inr rfl) (de_k k__law_bag hr (by decide) (by rfl) (da_cons (de_v 0) da_nil)))
    (dss_cons (ds_for [2] PassesOwn.never hr.calm (di_r1 (by rfl) B.h_range (da_cons (de_int) da_nil)) (dg_name [2] 2 nd rfl (by first | exact Or.inl rfl | exact Or.inr rfl) (by decide)) (dss_cons (ds_set 3 nd rfl (by first | exact Or.inl rfl | exact Or.inr rfl) (de_addX true (de_int) (de_z k__law_take hr (by decide) (by rfl) (da_cons (de_v 1) (da_cons (de_int) da_nil)))))
    (dss_cons (ds_set 4 nd rfl (by first | exact Or.inl rfl | exact Or.inr rfl) (de_tuple (by rfl) B.h_tuple (da_cons (de_compX true [("house", 9)] [9] rfl hr.calm nd (di_r1 (by rfl) B.h_range (da_cons (de_v 3) da_nil)) (by kernel_rfl) (fun _ _ _ _ _ => (dg_name [9] 9 nd rfl (by first | exact Or.inl rfl | exact Or.inr rfl) (by decide))) (fun _ _ _ _ _ => dts_nil) (fun _ _ _ _ _ => (de_z k__law_wide_book (RG.blk hr) (by decide) (by rfl) (da_cons (de_v 1) (da_cons (de_v 3) (da_cons (de_v 9) da_nil)))))) da_nil)))
    (dss_cons (ds_set 5 nd rfl (by first | exact Or.inl rfl | exact Or.inr rfl) (de_z k__law_pick hr (by decide) (by rfl) (da_cons (de_v 1) (da_cons (de_lstX true (da_cons (de_str) (da_cons (de_str) (da_cons (de_str) (da_cons (de_str) (da_cons (de_str) (da_cons (de_str) da_nil))))))) da_nil))))
    (dss_cons (ds_par 6 7 hr.calm nd rfl rfl (by decide) rfl rfl (da_cons (de_reprX hr C.sys (by rfl) B.h_repr (da_cons (de_v 4) da_nil)) (da_cons (de_z k__law_mend hr (by decide) (by rfl) (da_cons (de_v 4) (da_cons (de_v 5) da_nil))) da_nil)) (by rfl))
    (dss_cons (ds_set 8 nd rfl (by first | exact Or.inl rfl | exact Or.inr rfl) (de_if (dt_eq hr (de_mod (de_v 2) (de_int)) (de_int)) (de_zz0 (perm := [1, 0]) k_mended hr (by decide) (by rfl) ["word", "agreement"] (by decide) (fun _ _ _ _ _ _ us ws h1 h2 => match us, ws, h1, h2 with | [], [_, _], _, _ => rfl) (dk_cons (de_v 5) (dk_cons (de_v 4) dk_nil))) (de_z k_mended hr (by decide) (by rfl) (da_cons (de_v 4) (da_cons (de_v 5) da_nil)))))
    (dss_cons (ds_if (dt_w (dw_or (dt_ne hr (de_reprX hr C.sys (by rfl) B.h_repr (da_cons (de_v 8) da_nil)) (de_reprX hr C.sys (by rfl) B.h_repr (da_cons (de_v 7) da_nil))) (dw_or (dt_ne hr (de_reprX hr C.sys (by rfl) B.h_repr (da_cons (de_z k_mended hr (by decide) (by rfl) (da_cons (de_v 4) (da_cons (de_v 5) da_nil))) da_nil)) (de_reprX hr C.sys (by rfl) B.h_repr (da_cons (de_v 7) da_nil))) (dw_or1 (dt_ne hr (de_reprX hr C.sys (by rfl) B.h_repr (da_cons (de_v 4) da_nil)) (de_v 6)))))) (dss_one (ds_ret (de_bl))) dss_nil)
    (dss_one (ds_if (dt_notN (de_z k_agreement_error hr (by decide) (by rfl) (da_cons (de_v 8) da_nil)) (de_non)) (dss_one (ds_ret (de_bl))) dss_nil)))))))))
    (dss_one (ds_ret (de_bl)))))
/-! ### all that stands at the top -/
theorem all_mk {l : PySem.W.OpenLaw} {w : World} {K : PySem.W.Frag} {h : Heap} {mg : Str → Option Value} {fa : Addr} (X : K.In h) (G : h.Ns mainGlobals mg) (hfa : mg "law" = some (.ref fa)) (B : Bt mg) (C : Ct K w mg)
    (a_is_tuple : ∃ f fd, At K "is_tuple" s_is_tuple f fd)
    (a__are_kinds : ∃ f fd, At K "_are_kinds" s__are_kinds f fd)
    (a_is_ascending : ∃ f fd, At K "is_ascending" s_is_ascending f fd)
    (a_is_an_integer : ∃ f fd, At K "is_an_integer" s_is_an_integer f fd)
    (a_is_place : ∃ f fd, At K "is_place" s_is_place f fd)
    (a__leads : ∃ f fd, At K "_leads" s__leads f fd)
    (a_is_word : ∃ f fd, At K "is_word" s_is_word f fd)
    (a__is_pair : ∃ f fd, At K "_is_pair" s__is_pair f fd)
    (a__are_pairs : ∃ f fd, At K "_are_pairs" s__are_pairs f fd)
    (a__is_row : ∃ f fd, At K "_is_row" s__is_row f fd)
    (a__book_error : ∃ f fd, At K "_book_error" s__book_error f fd)
    (a_agreement_error : ∃ f fd, At K "agreement_error" s_agreement_error f fd)
    (a__words : ∃ f fd, At K "_words" s__words f fd)
    (a__with_letters : ∃ f fd, At K "_with_letters" s__with_letters f fd)
    (a__mended_book : ∃ f fd, At K "_mended_book" s__mended_book f fd)
    (a__check_bounds : ∃ f fd, At K "_check_bounds" s__check_bounds f fd)
    (a_mended : ∃ f fd, At K "mended" s_mended f fd)
    (a__law_bag : ∃ f fd, At K "_law_bag" s__law_bag f fd)
    (a__law_take : ∃ f fd, At K "_law_take" s__law_take f fd)
    (a__law_pick : ∃ f fd, At K "_law_pick" s__law_pick f fd)
    (a__law_mixed : ∃ f fd, At K "_law_mixed" s__law_mixed f fd)
    (a__law_pairs : ∃ f fd, At K "_law_pairs" s__law_pairs f fd)
    (a__law_row_drawn : ∃ f fd, At K "_law_row_drawn" s__law_row_drawn f fd)
    (a__law_book_drawn : ∃ f fd, At K "_law_book_drawn" s__law_book_drawn f fd)
    (a__law_mend_book : ∃ f fd, At K "_law_mend_book" s__law_mend_book f fd)
    (a__law_mend : ∃ f fd, At K "_law_mend" s__law_mend f fd)
    (a__law_wide_book : ∃ f fd, At K "_law_wide_book" s__law_wide_book f fd)
    (a_law : ∃ f fd, At K "law" s_law f fd)
    : ∃ fd : FuncData, (∀ (s : Shared) (v : Value), BindsTo s fd ⟨[v], []⟩ [("script", v)]) ∧ ∀ base : Heap, K.In base → base.Ns mainGlobals mg → FnG l.prog w K mg base 8 fa fd ["script"] m_law := by
  obtain ⟨f0, fd0, at0⟩ := a_law
  have e := hfa.symm.trans (PySem.W.mg_of X G at0.ns)
  cases e
  have F0 := at0.fn
  obtain ⟨oc, od, kV, doc, pm, an, cdv, ct, osl, rfl, lk, hcd⟩ := F0.ex
  refine ⟨PySem.W.fnOf "law" "law" (defArgs s_law) (defBody s_law) (defScope s_law) .none kV doc pm an cdv ct, fun s v => .of_eq rfl, fun base _ _ => ?_⟩
  have k_is_tuple : Kn l.prog w K mg base 1 "is_tuple" s_is_tuple ["value", "least", "most"] m_is_tuple := kn_of X G a_is_tuple (fun _ _ _ _ _ _ us hl => match us, hl with | [_, _, _], _ => rfl) fun f fd F => ok_is_tuple B C F
  have k__are_kinds : Kn l.prog w K mg base 2 "_are_kinds" s__are_kinds ["kinds"] m__are_kinds := kn_of X G a__are_kinds (fun _ _ _ _ _ _ us hl => match us, hl with | [_], _ => rfl) fun f fd F => ok__are_kinds B C k_is_tuple F
  have k_is_ascending : Kn l.prog w K mg base 1 "is_ascending" s_is_ascending ["items"] m_is_ascending := kn_of X G a_is_ascending (fun _ _ _ _ _ _ us hl => match us, hl with | [_], _ => rfl) fun f fd F => ok_is_ascending B C F
  have k_is_an_integer : Kn l.prog w K mg base 1 "is_an_integer" s_is_an_integer ["value"] m_is_an_integer := kn_of X G a_is_an_integer (fun _ _ _ _ _ _ us hl => match us, hl with | [_], _ => rfl) fun f fd F => ok_is_an_integer B C F
  have k_is_place : Kn l.prog w K mg base 2 "is_place" s_is_place ["value", "many"] m_is_place := kn_of X G a_is_place (fun _ _ _ _ _ _ us hl => match us, hl with | [_, _], _ => rfl) fun f fd F => ok_is_place B C k_is_an_integer F
  have k__leads : Kn l.prog w K mg base 3 "_leads" s__leads ["state", "onto", "kinds"] m__leads := kn_of X G a__leads (fun _ _ _ _ _ _ us hl => match us, hl with | [_, _, _], _ => rfl) fun f fd F => ok__leads B C k_is_place F
  have k_is_word : Kn l.prog w K mg base 1 "is_word" s_is_word ["value"] m_is_word := kn_of X G a_is_word (fun _ _ _ _ _ _ us hl => match us, hl with | [_], _ => rfl) fun f fd F => ok_is_word B C F
  have k__is_pair : Kn l.prog w K mg base 3 "_is_pair" s__is_pair ["value", "house", "houses"] m__is_pair := kn_of X G a__is_pair (fun _ _ _ _ _ _ us hl => match us, hl with | [_, _, _], _ => rfl) fun f fd F => ok__is_pair B C k_is_place k_is_tuple k_is_word F
  have k__are_pairs : Kn l.prog w K mg base 4 "_are_pairs" s__are_pairs ["value", "most", "house", "houses"] m__are_pairs := kn_of X G a__are_pairs (fun _ _ _ _ _ _ us hl => match us, hl with | [_, _, _, _], _ => rfl) fun f fd F => ok__are_pairs B C k_is_tuple k__is_pair F
  have k__is_row : Kn l.prog w K mg base 5 "_is_row" s__is_row ["value", "kinds", "house", "houses"] m__is_row := kn_of X G a__is_row (fun _ _ _ _ _ _ us hl => match us, hl with | [_, _, _, _], _ => rfl) fun f fd F => ok__is_row B C k_is_tuple k_is_ascending k__leads k__are_pairs F
  have k__book_error : Kn l.prog w K mg base 6 "_book_error" s__book_error ["book", "house", "houses"] m__book_error := kn_of X G a__book_error (fun _ _ _ _ _ _ us hl => match us, hl with | [_, _, _], _ => rfl) fun f fd F => ok__book_error B C k_is_tuple k__are_kinds k__is_row F
  have k_agreement_error : Kn l.prog w K mg base 7 "agreement_error" s_agreement_error ["value"] m_agreement_error := kn_of X G a_agreement_error (fun _ _ _ _ _ _ us hl => match us, hl with | [_], _ => rfl) fun f fd F => ok_agreement_error B C k_is_tuple k__book_error F
  have k__words : Kn l.prog w K mg base 1 "_words" s__words ["agreement"] m__words := kn_of X G a__words (fun _ _ _ _ _ _ us hl => match us, hl with | [_], _ => rfl) fun f fd F => ok__words B C F
  have k__with_letters : Kn l.prog w K mg base 1 "_with_letters" s__with_letters ["row", "letters"] m__with_letters := kn_of X G a__with_letters (fun _ _ _ _ _ _ us hl => match us, hl with | [_, _], _ => rfl) fun f fd F => ok__with_letters B C F
  have k__mended_book : Kn l.prog w K mg base 2 "_mended_book" s__mended_book ["agreement", "house", "word"] m__mended_book := kn_of X G a__mended_book (fun _ _ _ _ _ _ us hl => match us, hl with | [_, _, _], _ => rfl) fun f fd F => ok__mended_book B C k__with_letters F
  have k__check_bounds : Kn l.prog w K mg base 1 "_check_bounds" s__check_bounds ["books"] m__check_bounds := kn_of X G a__check_bounds (fun _ _ _ _ _ _ us hl => match us, hl with | [_], _ => rfl) fun f fd F => ok__check_bounds B C F
  have k_mended : Kn l.prog w K mg base 3 "mended" s_mended ["agreement", "word"] m_mended := kn_of X G a_mended (fun _ _ _ _ _ _ us hl => match us, hl with | [_, _], _ => rfl) fun f fd F => ok_mended B C k_is_word k__words k__mended_book k__check_bounds F
  have k__law_bag : Kn l.prog w K mg base 1 "_law_bag" s__law_bag ["script"] m__law_bag := kn_of X G a__law_bag (fun _ _ _ _ _ _ us hl => match us, hl with | [_], _ => rfl) fun f fd F => ok__law_bag B C F
  have k__law_take : Kn l.prog w K mg base 1 "_law_take" s__law_take ["bag", "many"] m__law_take := kn_of X G a__law_take (fun _ _ _ _ _ _ us hl => match us, hl with | [_, _], _ => rfl) fun f fd F => ok__law_take B C F
  have k__law_pick : Kn l.prog w K mg base 2 "_law_pick" s__law_pick ["bag", "some"] m__law_pick := kn_of X G a__law_pick (fun _ _ _ _ _ _ us hl => match us, hl with | [_, _], _ => rfl) fun f fd F => ok__law_pick B C k__law_take F
  have k__law_mend_book : Kn l.prog w K mg base 1 "_law_mend_book" s__law_mend_book ["n", "house", "book", "word"] m__law_mend_book := kn_of X G a__law_mend_book (fun _ _ _ _ _ _ us hl => match us, hl with | [_, _, _, _], _ => rfl) fun f fd F => ok__law_mend_book B C F
  have k__law_mend : Kn l.prog w K mg base 2 "_law_mend" s__law_mend ["deal", "word"] m__law_mend := kn_of X G a__law_mend (fun _ _ _ _ _ _ us hl => match us, hl with | [_, _], _ => rfl) fun f fd F => ok__law_mend B C k__law_mend_book F
  have k__law_mixed : Kn l.prog w K mg base 2 "_law_mixed" s__law_mixed ["bag", "some"] m__law_mixed := kn_of X G a__law_mixed (fun _ _ _ _ _ _ us hl => match us, hl with | [_, _], _ => rfl) fun f fd F => ok__law_mixed B C k__law_take F
  have k__law_pairs : Kn l.prog w K mg base 1 "_law_pairs" s__law_pairs ["n", "house"] m__law_pairs := kn_of X G a__law_pairs (fun _ _ _ _ _ _ us hl => match us, hl with | [_, _], _ => rfl) fun f fd F => ok__law_pairs B C F
  have k__law_row_drawn : Kn l.prog w K mg base 3 "_law_row_drawn" s__law_row_drawn ["bag", "n", "house", "kinds", "state"] m__law_row_drawn := kn_of X G a__law_row_drawn (fun _ _ _ _ _ _ us hl => match us, hl with | [_, _, _, _, _], _ => rfl) fun f fd F => ok__law_row_drawn B C k__law_take k__law_pick k__law_mixed k__law_pairs F
  have k__law_book_drawn : Kn l.prog w K mg base 4 "_law_book_drawn" s__law_book_drawn ["bag", "n", "house", "many"] m__law_book_drawn := kn_of X G a__law_book_drawn (fun _ _ _ _ _ _ us hl => match us, hl with | [_, _, _, _], _ => rfl) fun f fd F => ok__law_book_drawn B C k__law_pick k__law_row_drawn F
  have k__law_wide_book : Kn l.prog w K mg base 5 "_law_wide_book" s__law_wide_book ["bag", "n", "house"] m__law_wide_book := kn_of X G a__law_wide_book (fun _ _ _ _ _ _ us hl => match us, hl with | [_, _, _], _ => rfl) fun f fd F => ok__law_wide_book B C k__law_take k__law_pick k__law_row_drawn k__law_book_drawn F
  exact ok_law B C k_agreement_error k_mended k__law_bag k__law_take k__law_pick k__law_mend k__law_wide_book F0
end K49

namespace K49
open PySem L2 DD
theorem d_bag : m__law_bag = B_bag 15020049 := rfl
theorem d_take : z__law_take = gcZ B_take := rfl
theorem d_mixed : z__law_mixed = gcZ (B_mixed z__law_take) := rfl
theorem d_pick : z__law_pick = gcZ (A_pick z__law_take) := rfl
variable {G : Deal} {S : Sto} {n h : Nat}
theorem seq_cut {f g : SM} {ρ : DD.Env} {S : Sto} {Q : Out → Prop} (R : DD.Env → Sto → Prop) (h1 : wO (f ρ S) fun o => match o with | .nx ρ' S' => R ρ' S' | .rt d S' => Q (.rt d S') | .bk ρ' S' => Q (.bk ρ' S') | .ct ρ' S' => Q (.ct ρ' S'))
    (h2 : ∀ ρ' S', R ρ' S' → wO (g ρ' S') Q) : wO (mSeq f g ρ S) Q := by
  rw [w_seq]
  refine h1.imp fun o h => ?_
  cases o with
  | nx ρ' S' => exact h2 _ _ h
  | rt d S' => exact h
  | bk ρ' S' => exact h
  | ct ρ' S' => exact h
theorem pick_all (hd : Draws G z__law_take) (P : D → Prop) {L : List D} (hn : L ≠ []) (hl : L.length < 1000) (h : ∀ y ∈ L, P y) (hp : ∀ y, P y → lf y) : Dsp G z__law_pick [.loc G.dk, .rol L] P := by
  rw [d_pick]
  exact (pickG hd (.inl rfl) hn hl fun y hy => hp y (h y hy)).imp fun d hd' => h d hd'
/-! ### the letters that may be sent -/
def AB : List Str := ["a", "b"]
def abK (h k : Nat) : List Pr := ((List.range k).filter (· ≠ h)).flatMap fun o => ([(o, "a"), (o, "b")] : List Pr)
theorem abK_succ (h k : Nat) : abK h (k + 1) = if k = h then abK h k else abK h k ++ ([(k, "a"), (k, "b")] : List Pr) := by
  unfold abK
  rw [List.range_succ, List.filter_append]
  by_cases q : k = h
  · simp [q]
  · simp [q]
theorem abK_mem {k : Nat} {p : Pr} (hp : p ∈ abK h k) : p.1 < k ∧ p.1 ≠ h ∧ p.2 ∈ AB := by
  obtain ⟨o, ho, hp⟩ := List.mem_flatMap.mp hp
  obtain ⟨h1, h2⟩ := List.mem_filter.mp ho
  have := List.mem_range.mp h1
  simp only [List.mem_cons, List.not_mem_nil, or_false] at hp
  rcases hp with rfl | rfl
  · exact ⟨this, by simpa using h2, by simp [AB]⟩
  · exact ⟨this, by simpa using h2, by simp [AB]⟩
theorem ne_ab : ¬ (("a" : Str) = ("b" : Str)) := by decide +kernel
theorem abK_nodup : ∀ k : Nat, (abK h k).Nodup
  | 0 => by simp [abK]
  | k + 1 => by
    rw [abK_succ]
    split
    · exact abK_nodup k
    · refine List.nodup_append.mpr ⟨abK_nodup k, ?_, fun p hp q hq e => ?_⟩
      · simp [ne_ab]
      · subst e
        have := (abK_mem hp).1
        simp at hq
        rcases hq with rfl | rfl <;> simp at this
theorem abK_len : ∀ k : Nat, (abK h k).length ≤ 2 * k
  | 0 => by simp [abK]
  | k + 1 => by
    have := abK_len k
    rw [abK_succ]
    split
    · omega
    · simp; omega
theorem lf_prsR (ps : List Pr) : lf (.rol (ps.map DD.prD)) := fun n => by
  rw [scD_rol]
  exact lf_prs ps n
theorem pairs_ok (hn : n ≤ 4) : Pu z__law_pairs [.int n, .int h] (.rol ((abK h n).map DD.prD)) := Pu.of0 (lf_prsR _) fun S => by
  have nat : sizeLine = 16777216 := by decide
  refine w_fn rfl ?_
  simp [rng_small (n := n) (by omega)]
  refine for_w (fun ds ρ S' => S = S' ∧ ∃ (k : Nat) (y3 : Option D), ds = (List.range' k (n - k)).map (fun i => D.int (i : Nat)) ∧ k ≤ n ∧ ρ = [some (.int n), some (.int h), some (.rol ((abK h k).map DD.prD)), y3]) (fun _ _ => False) (fun _ _ => False) (fun _ _ _ _ => rfl) ?_ ?_ (fun _ _ h => h.elim) (fun _ _ h => h.elim) _ _ _ ⟨rfl, 0, none, by rw [rngL_zero, List.range_eq_range', Nat.sub_zero], by omega, rfl⟩
  · rintro d ds ρ S' ⟨rfl, k, y3, hd, hk, rfl⟩
    have hlt : k < n := by
      rcases Nat.lt_or_ge k n with q | q
      · exact q
      · rw [show n - k = 0 by omega] at hd; cases hd
    rw [show n - k = (n - (k + 1)) + 1 by omega, List.range'_succ, List.map_cons] at hd
    cases hd
    have ll := abK_len (h := h) k
    have sz : (abK h k).length + 2 ≤ sizeLine := by omega
    have e := abK_succ h k
    by_cases q : k = h
    · rw [if_pos q] at e
      have q' : (k : Int) = h := by omega
      simp [q']
      exact ⟨k + 1, rfl, by omega, by rw [e]⟩
    · rw [if_neg q] at e
      have q' : ¬ (k : Int) = h := by omega
      simp [q', q, sz]
      exact ⟨k + 1, rfl, by omega, by rw [e]; simp [DD.prD]⟩
  · rintro ρ S' ⟨rfl, k, y3, hd, hk, rfl⟩
    have : k = n := by
      have := congrArg List.length hd
      simp at this
      omega
    subst this
    simp
/-! ### pairs mixed -/
def prI : D → Pr
  | .tup [.int i, .str x] => (i.toNat, x)
  | _ => (0, "")
theorem prI_prD (p : Pr) : prI (DD.prD p) = p := rfl
theorem perm_prs {es : List D} {L : List Pr} (p : es.Perm (L.map DD.prD)) : ∃ ps : List Pr, es = ps.map DD.prD ∧ ps.Perm L := by
  refine ⟨es.map prI, ?_, ?_⟩
  · rw [List.map_map]
    have : es.map (DD.prD ∘ prI) = es.map id := List.map_congr_left fun e he => by
      obtain ⟨q, _, rfl⟩ := List.mem_map.mp (p.mem_iff.mp he)
      rfl
    rw [this, List.map_id]
  · have := p.map prI
    rwa [List.map_map, show L.map (prI ∘ DD.prD) = L.map id from List.map_congr_left fun q _ => rfl, List.map_id] at this
theorem cut_take (xs : List D) (i : Nat) : cutD xs none (some (i : Int)) = xs.take i := by
  unfold cutD
  rw [HT.sIx_none, HT.sIx_nat, List.drop_zero, Nat.sub_zero]
  by_cases h : i ≤ xs.length
  · rw [Nat.min_eq_left h]
  · rw [Nat.min_eq_right (by omega), List.take_of_length_le (Nat.le_refl _), List.take_of_length_le (by omega)]
theorem prs_ok {p : Pr} (hn : n ≤ 4) (hp : p ∈ abK h n) : PrF p := by
  obtain ⟨h1, _, h3⟩ := abK_mem hp
  refine ⟨by omega, ?_⟩
  simp only [AB, List.mem_cons, List.not_mem_nil, or_false] at h3
  rcases h3 with h3 | h3 <;> rw [h3]
  · exact WA_fit (by simp [WA])
  · exact WA_fit (by simp [WA])
theorem mixed_prs (hd : Draws G z__law_take) (hn : n ≤ 4) : Dsp G z__law_mixed [.loc G.dk, .rol ((abK h n).map DD.prD)] (fun d => ∃ ps : List Pr, d = .rol (ps.map DD.prD) ∧ ps.Perm (abK h n)) := by
  rw [d_mixed]
  have ll := abK_len (h := h) n
  have fl : FL 200 1 ((abK h n).map DD.prD) := (FL.most (m := 8) (w := 22) (fun d hd => by
    obtain ⟨p, hp, rfl⟩ := List.mem_map.mp hd
    exact fw_pr (prs_ok hn hp)) (by simp; omega)).up (by omega) (by omega)
  refine (mixP hd (.inl rfl) (by simp; omega) fl.1 ?_ (by have := fl.2.2; omega)).imp ?_
  · rw [noL_all]
    intro d hd
    obtain ⟨p, hp, rfl⟩ := List.mem_map.mp hd
    simp [DD.prD]
  · rintro d ⟨es, rfl, p⟩
    obtain ⟨ps, rfl, p2⟩ := perm_prs p
    exact ⟨ps, rfl, p2⟩
end K49

namespace K49
open PySem L2 DD
variable {G : Deal} {S : Sto} {n h : Nat} {ks : List Str}
def lets (st : Str) : List Str := if st = "open" then ["open", "yes", "off"] else ["yes", "done", "off"]
theorem lead_lets {a b : Str} (h : a = "open" ∨ a = "yes") : decide (b ∈ lets a) = leadK a b := by
  have ne : ¬ (("yes" : Str) = ("open" : Str)) := by decide +kernel
  rcases h with rfl | rfl
  · simp [lets, leadK]
  · simp [lets, leadK, ne]
theorem lf_rows (rs : List Rw) : lf (.rol (rs.map rwD)) := fun m => by
  rw [scD_rol]
  exact scL_all.mpr fun d hd => by
    obtain ⟨x, _, rfl⟩ := List.mem_map.mp hd
    exact lf_rw x m
def IntIn (xs : List Int) (d : D) : Prop := ∃ i ∈ xs, d = .int i
theorem pick_ints (hd : Draws G z__law_take) (xs : List Int) (hn : xs ≠ []) (hl : xs.length < 1000) : Dsp G z__law_pick [.loc G.dk, .rol (xs.map D.int)] (IntIn xs) :=
  pick_all hd (IntIn xs) (by simpa using hn) (by simpa using hl) (fun y hy => by obtain ⟨i, hi, rfl⟩ := List.mem_map.mp hy; exact ⟨i, hi, rfl⟩) fun y ⟨i, _, e⟩ => by rw [e]; exact lf_int
def RwK (n h : Nat) (ks : List Str) (r : Rw) : Prop := RwOk n h AB ks r ∧ r.sd.length ≤ 2
/-- at most one row -/
def RowsV (n h : Nat) (ks : List Str) (d : D) : Prop := ∃ rs : List Rw, d = .rol (rs.map rwD) ∧ rs.length ≤ 1 ∧ ∀ r ∈ rs, RwK n h ks r
theorem row_drawn (hd : Draws G z__law_take) (h4 : n ≤ 4) {st : Nat} (hk8 : ks.length ≤ 8) (hst : st < ks.length) (hs : ks.getD st "" = "open" ∨ ks.getD st "" = "yes") : Dsp G z__law_row_drawn [.loc G.dk, .int n, .int h, .tup (ks.map D.str), .int st] (RowsV n h ks) := by
  have nat : sizeLine = 16777216 := by decide
  refine Dsp.of fun S hS => ?_
  refine w_fn rfl ?_
  have ast := atI_str (ks := ks) (i := st) hst
  refine seq_cut (fun ρ S2 => S2 = S ∧ ρ = [some (.loc G.dk), some (.int n), some (.int h), some (.tup (ks.map D.str)), some (.int st), some (.tup ((lets (ks.getD st "")).map D.str)), none, none, none, none]) ?_ ?_
  · simp only [List.getD_eq_getElem?_getD] at ast hs ⊢
    simp [ast, lets]
    split <;> simp_all
  rintro ρ S2 ⟨rfl, rfl⟩
  refine seq_cut (fun ρ S3 => S3 = S2 ∧ ρ = [some (.loc G.dk), some (.int n), some (.int h), some (.tup (ks.map D.str)), some (.int st), some (.tup ((lets (ks.getD st "")).map D.str)), some (.rol (gl ks st ks.length)), none, none, none]) ?_ ?_
  · have r1 : rngOk ((st : Int) + 1) = true := rng_small (n := st + 1) (by omega)
    have goals : ∀ ρ : DD.Env, 9 < ρ.length → ρ[3]? = some (some (.tup (ks.map D.str))) → ρ[5]? = some (some (.tup ((lets (ks.getD st "")).map D.str))) →
        compL (gN 9) (fun _ => true) (mB (m2 inD (m2 ixD (mV 3) (mV 9)) (mV 5))) (mV 9) ρ (rngL ((st : Int) + 1) ((ks.length : Int) - (st + 1)).toNat) [] S2 = some (gl ks st ks.length, S2) := by
      intro ρ hl g3 g5
      have en : ((ks.length : Int) - (st + 1)).toNat = ks.length - (st + 1) := by omega
      rw [en, show ((st : Int) + 1) = ((st + 1 : Nat) : Int) by omega, rngL_range]
      rw [comp_fm (fun d => match d with | .int i => leadK (ks.getD st "") (ks.getD i.toNat "") | _ => false) id _ [] (fun d hd => by
        obtain ⟨o, ho, rfl⟩ := List.mem_map.mp hd
        rw [List.mem_range'] at ho
        obtain ⟨j, j1, j2⟩ := ho
        have hoL : o < ks.length := by omega
        have ao := atI_str (ks := ks) (i := o) hoL
        have q9 : (ρ.set 9 (some (D.int o)))[9]? = some (some (.int o)) := List.getElem?_set_self hl
        have q3 : (ρ.set 9 (some (D.int o)))[3]? = some (some (.tup (ks.map D.str))) := by rw [List.getElem?_set_ne (by decide)]; exact g3
        have q5 : (ρ.set 9 (some (D.int o)))[5]? = some (some (.tup ((lets (ks.getD st "")).map D.str))) := by rw [List.getElem?_set_ne (by decide)]; exact g5
        have il := in_strs (ks.getD o "") (lets (ks.getD st "")) S2
        rw [lead_lets hs] at il
        simp only [w_gN, w_b, w_m2, w_v, q3, q9, q5, Option.some.injEq, exists_eq_left', DD.ix_tup, ao, Option.bind_some, wO_some, il, Int.toNat_natCast]
        simp) (by simp; omega)]
      rw [List.nil_append, List.map_id, List.filter_map]
      rfl
    simp [wipeE, r1, rng_small (n := ks.length) (by omega)]
    simp only [List.getD_eq_getElem?_getD] at goals
    rw [goals _ (by simp) rfl rfl, wO_some]
    simp
  rintro ρ S3 ⟨rfl, rfl⟩
  have lg : Lay (.rol (gl ks st ks.length)) := lay_ints (glL ks st ks.length) (fun i => (i : Int)) (fun i hi => by
    have := (List.mem_filter.mp hi).1
    rw [List.mem_range'] at this
    obtain ⟨j, h3, h4⟩ := this
    exact big250 (by omega))
  by_cases ge : gl ks st ks.length = []
  · rw [ge]
    simp [eqD_lay lay_nilR lay_nilR, eqv_nilR]
    exact Ret.val0 hS FQ.refl ⟨[], rfl, by simp, by simp⟩ (lf_rows [])
  refine seq_cut (fun ρ S4 => S4 = S3 ∧ ρ = [some (.loc G.dk), some (.int n), some (.int h), some (.tup (ks.map D.str)), some (.int st), some (.tup ((lets (ks.getD st "")).map D.str)), some (.rol (gl ks st ks.length)), none, none, none]) ?_ ?_
  · have gf : (gl ks st ks.length).isEmpty = false := by simpa using ge
    simp [eqD_lay lg lay_nilR, eqv_nilR, gf]
  rintro ρ S4 ⟨rfl, rfl⟩
  refine seq_cut (fun ρ S5 => ∃ tk : List Pr, tk.Nodup ∧ (∀ p ∈ tk, p ∈ abK h n) ∧ tk.length ≤ 2 ∧ ρ = [some (.loc G.dk), some (.int n), some (.int h), some (.tup (ks.map D.str)), some (.int st), some (.tup ((lets (ks.getD st "")).map D.str)), some (.rol (gl ks st ks.length)), some (.rol ((isort ltQ tk).map DD.prD)), none, none] ∧ G.ok S5 ∧ FQ G.own S4 S5) ?_ ?_
  · simp [(pairs_ok h4).w]
    refine (mixed_prs hd h4).at0 hS ?_
    rintro d S5 ⟨ps, rfl, pp⟩ h5 f5
    simp
    refine (pick_ints hd [0, 0, 1, 1, 2] (by simp) (by simp)).at0 h5 ?_
    rintro d S6 ⟨i, hi, rfl⟩ h6 f6
    obtain ⟨c, rfl, hc⟩ : ∃ c : Nat, i = c ∧ c ≤ 2 := by
      simp at hi
      exact ⟨i.toNat, by omega, by omega⟩
    simp
    rw [cut_take, ← List.map_take, sort_pr, wO_some]
    exact ⟨ps.take c, (pp.nodup_iff.mpr (abK_nodup n)).sublist (List.take_sublist _ _), fun a b hp => pp.mem_iff.mp (List.mem_of_mem_take hp), by rw [List.length_take]; omega, rfl, h6, f5.trans f6⟩
  rintro ρ S5 ⟨tk, tk1, tk2, tk3, rfl, h5, f5⟩
  refine seq_cut (fun ρ S6 => ∃ sd : List Pr, sd.Nodup ∧ (∀ p ∈ sd, p ∈ abK h n) ∧ sd.length ≤ 2 ∧ ρ = [some (.loc G.dk), some (.int n), some (.int h), some (.tup (ks.map D.str)), some (.int st), some (.tup ((lets (ks.getD st "")).map D.str)), some (.rol (gl ks st ks.length)), some (.rol ((isort ltQ tk).map DD.prD)), some (.rol (sd.map DD.prD)), none] ∧ G.ok S6 ∧ FQ G.own S4 S6) ?_ ?_
  · simp [(pairs_ok h4).w]
    refine (mixed_prs hd h4).at0 h5 ?_
    rintro d S6 ⟨ps, rfl, pp⟩ h6 f6
    simp
    refine (pick_ints hd [0, 1, 1, 2] (by simp) (by simp)).at0 h6 ?_
    rintro d S7 ⟨i, hi, rfl⟩ h7 f7
    obtain ⟨c, rfl, hc⟩ : ∃ c : Nat, i = c ∧ c ≤ 2 := by
      simp at hi
      exact ⟨i.toNat, by omega, by omega⟩
    simp
    rw [cut_take, ← List.map_take]
    exact ⟨ps.take c, (pp.nodup_iff.mpr (abK_nodup n)).sublist (List.take_sublist _ _), fun a b hp => pp.mem_iff.mp (List.mem_of_mem_take hp), by rw [List.length_take]; omega, rfl, h7, f5.trans (f6.trans f7)⟩
  rintro ρ S6 ⟨sd, sd1, sd2, sd3, rfl, h6, f6⟩
  have glen : (gl ks st ks.length).length < 1000 := by
    unfold gl glL
    rw [List.length_map]
    have := List.length_filter_le (p := fun o => leadK (ks.getD st "") (ks.getD o "")) (l := List.range' (st + 1) (ks.length - (st + 1)))
    rw [List.length_range'] at this
    omega
  have tr : ∀ (ds : List D) (S : Sto), tupleD (.rol ds) S = some (.tup ds, S) := fun _ _ => rfl
  simp [tr]
  refine (pick_all hd (fun d => ∃ o : Nat, d = .int o ∧ st < o ∧ o < ks.length ∧ leadK (ks.getD st "") (ks.getD o "") = true) ge glen (fun y hy => gl_mem hy) (fun y ⟨o, e, _⟩ => by rw [e]; exact lf_int)).at0 h6 ?_
  rintro d S7 ⟨o, rfl, o1, o2, o3⟩ h7 f7
  simp
  refine (show Draws G z__law_take from hd) 4 (by omega) |>.at0 h7 ?_
  rintro d S8 ⟨v, rfl, _, _⟩ h8 f8
  simp
  have mem : ∀ p, p ∈ abK h n → p.1 < n ∧ p.1 ≠ h ∧ p.2 ∈ AB := fun p hp => abK_mem hp
  have row : RwOk n h AB ks ⟨st, isort ltQ tk, o, sd, decide (v = 0)⟩ := by
    refine ⟨o1, o2, o3, ⟨?_, fun p hp => mem p (tk2 p (isort_mem.mp hp))⟩, by simp only [isort_lenP]; omega, isort_up tk1, ⟨sd1, fun p hp => mem p (sd2 p hp)⟩, by simp only; omega⟩
    exact (isort_up tk1).imp fun h q => by rw [q] at h; rw [ltQ_eq, ltS_eq rfl, strLt_irr] at h; cases h
  exact Ret.val0 h8 (f6.trans (f7.trans f8)) ⟨[⟨st, isort ltQ tk, o, sd, decide (v = 0)⟩], by simp [rwD], by simp, fun r hr => by rw [List.mem_singleton.mp hr]; exact ⟨row, sd3⟩⟩ (lf_rows [⟨st, isort ltQ tk, o, sd, decide (v = 0)⟩])
end K49

namespace K49
open PySem L2 DD
variable {G : Deal} {S : Sto} {n h : Nat} {ks : List Str}
def Ks4 (ks : List Str) : Prop := (∀ k ∈ ks, k ∈ four) ∧ (ks.filter (fun x => decide (x = ("done" : Str)))).length ≤ 2
def KsOk (m : Nat) (d : D) : Prop := ∃ ks : List Str, d = .tup (ks.map D.str) ∧ m ≤ ks.length ∧ ks.length ≤ 5 ∧ Ks4 ks ∧ (ks.getD 0 "" = "open" ∨ ks.getD 0 "" = "yes")
theorem lf_ks (ks : List Str) : lf (.tup (ks.map D.str)) := fun m => by
  rw [scD_tup]
  exact scL_all.mpr fun d hd => by
    obtain ⟨x, _, rfl⟩ := List.mem_map.mp hd
    simp
theorem ks_of {m : Nat} (ks : List Str) (h1 : (decide (m ≤ ks.length) && decide (ks.length ≤ 5) && (ks.all (fun k => decide (k ∈ four)) && decide ((ks.filter (fun x => decide (x = ("done" : Str)))).length ≤ 2)) && (decide (ks.getD 0 "" = "open") || decide (ks.getD 0 "" = "yes"))) = true) : KsOk m (.tup (ks.map D.str)) := by
  simp only [Bool.and_eq_true, Bool.or_eq_true, decide_eq_true_eq, List.all_eq_true] at h1
  exact ⟨ks, rfl, h1.1.1.1, h1.1.1.2, h1.1.2, h1.2⟩
def isSt (ks : List Str) (i : Nat) : Bool := decide (ks.getD i "" ∈ (["open", "yes"] : List Str))
def stL (ks : List Str) : List Nat := (List.range (ks.length - 1)).filter (isSt ks)
theorem stL_mem {i : Nat} (hi : i ∈ stL ks) : i < ks.length ∧ (ks.getD i "" = "open" ∨ ks.getD i "" = "yes") := by
  obtain ⟨h1, h2⟩ := List.mem_filter.mp hi
  have := List.mem_range.mp h1
  refine ⟨by omega, ?_⟩
  have := of_decide_eq_true h2
  simpa using this
theorem stL_len : (stL ks).length ≤ ks.length - 1 := by
  have := List.length_filter_le (p := isSt ks) (l := List.range (ks.length - 1))
  rwa [List.length_range] at this
/-- the states that may be left -/
theorem starts_comp {S : Sto} {slot v : Nat} (hk8 : ks.length ≤ 8) (ρ : DD.Env) (hl : slot < ρ.length) (hv : ρ[v]? = some (some (.tup (ks.map D.str)))) (ne : v ≠ slot) :
    compL (gN slot) (fun _ => true) (mB (m2 inD (m2 ixD (mV v) (mV slot)) (mTup (mCons (mC (.str "open")) (mCons (mC (.str "yes")) mNil))))) (mV slot) ρ (rngL 0 (ks.length - 1)) [] S = some (.map (fun i => D.int (i : Nat)) (stL ks), S) := by
  have nat : sizeLine = 16777216 := by decide
  rw [rngL_zero]
  rw [comp_fm (fun d => match d with | .int i => isSt ks i.toNat | _ => false) id _ [] (fun d hd => by
    obtain ⟨o, ho, rfl⟩ := List.mem_map.mp hd
    have := List.mem_range.mp ho
    have ao := atI_str (ks := ks) (i := o) (by omega)
    have q9 : (ρ.set slot (some (D.int o)))[slot]? = some (some (.int o)) := List.getElem?_set_self hl
    have q3 : (ρ.set slot (some (D.int o)))[v]? = some (some (.tup (ks.map D.str))) := by rw [List.getElem?_set_ne (Ne.symm ne)]; exact hv
    have il := in_strs (ks.getD o "") ["open", "yes"] S
    simp only [List.map_cons, List.map_nil] at il
    simp only [w_gN, w_b, w_m2, w_v, w_tup, w_cons, w_nil, w_c, q3, q9, Option.some.injEq, exists_eq_left', DD.ix_tup, ao, Option.bind_some, wO_some, il, Int.toNat_natCast]
    simp [isSt]) (by simp; omega)]
  rw [List.nil_append, List.map_id, List.filter_map]
  rfl
theorem lay_st (hk8 : ks.length ≤ 8) : Lay (.rol ((stL ks).map fun i => D.int (i : Nat))) := lay_ints (stL ks) (fun i => (i : Int)) (fun i hi => by have := (stL_mem hi).1; exact big250 (by omega))
def StV (ks : List Str) (d : D) : Prop := ∃ i : Nat, d = .int i ∧ i < ks.length ∧ (ks.getD i "" = "open" ∨ ks.getD i "" = "yes")
theorem pick_st (hd : Draws G z__law_take) (hk8 : ks.length ≤ 8) (hn : stL ks ≠ []) : Dsp G z__law_pick [.loc G.dk, .rol ((stL ks).map fun i => D.int (i : Nat))] (StV ks) :=
  pick_all hd (StV ks) (by simpa using hn) (by have := stL_len (ks := ks); simp; omega) (fun y hy => by obtain ⟨i, hi, rfl⟩ := List.mem_map.mp hy; exact ⟨i, rfl, stL_mem hi⟩) fun y ⟨i, e, _⟩ => by rw [e]; exact lf_int
theorem stL_first (h2 : 2 ≤ ks.length) (h0 : ks.getD 0 "" = "open" ∨ ks.getD 0 "" = "yes") : ∃ r, stL ks = 0 :: r := by
  have e : List.range (ks.length - 1) = 0 :: (List.range (ks.length - 2)).map (· + 1) := by
    rw [show ks.length - 1 = (ks.length - 2) + 1 by omega, List.range_succ_eq_map]
  unfold stL
  rw [e, List.filter_cons, if_pos (by simp only [isSt]; exact decide_eq_true (by simpa using h0))]
  exact ⟨_, rfl⟩
def BkW (n h : Nat) (b : Bk) : Prop := BkOk n h AB b ∧ b.rs.length ≤ 4 ∧ b.ks.length ≤ 5 ∧ (b.ks.filter (fun x => decide (x = ("done" : Str)))).length ≤ 2 ∧ ∀ r ∈ b.rs, r.sd.length ≤ 2
def BkV (n h : Nat) (d : D) : Prop := ∃ b : Bk, d = bkD b ∧ BkW n h b
theorem tr (ds : List D) (S : Sto) : tupleD (.rol ds) S = some (.tup ds, S) := rfl
theorem bk_of {rs : List Rw} (h1 : 1 ≤ ks.length) (h5 : ks.length ≤ 5) (hk : Ks4 ks) (h0 : ks.getD 0 "" = "open" ∨ ks.getD 0 "" = "yes") (hr : ∀ r ∈ rs, RwK n h ks r) (hl : rs.length ≤ 4) : BkV n h (.tup [.tup (ks.map D.str), .tup (rs.map rwD)]) :=
  ⟨⟨ks, rs⟩, rfl, ⟨h1, by simp only; omega, hk.1, h0, by simp only; omega, fun r q => (hr r q).1⟩, hl, h5, hk.2, fun r q => (hr r q).2⟩
theorem bkv_lf {d : D} (h : BkV n h d) : lf d := by obtain ⟨b, rfl, _⟩ := h; exact lf_bk b
def KL (L : List D) (m c : Nat) : Prop := (∀ y ∈ L, KsOk m y) ∧ L ≠ [] ∧ L.length < c
theorem book_drawn (hd : Draws G z__law_take) (h4 : n ≤ 4) {m : Nat} (hm : m ≤ 4) : Dsp G z__law_book_drawn [.loc G.dk, .int n, .int h, .int m] (BkV n h) := by
  have nat : sizeLine = 16777216 := by decide
  refine Dsp.of fun S hS => ?_
  refine w_fn rfl ?_
  refine seq_cut (fun ρ S2 => S2 = S ∧ ∃ L, KL L 2 10 ∧ ρ = [some (.loc G.dk), some (.int n), some (.int h), some (.int m), some (.rol L), none, none, none, none, none]) ?_ ?_
  · simp
    refine ⟨fun y hy => ?_, by simp, by simp⟩
    simp only [List.mem_cons, List.not_mem_nil, or_false] at hy
    rcases hy with rfl | rfl | rfl | rfl
    · exact ks_of ["open", "yes", "done", "off"] (by decide +kernel)
    · exact ks_of ["yes", "done", "off"] (by decide +kernel)
    · exact ks_of ["open", "yes", "off", "done"] (by decide +kernel)
    · exact ks_of ["yes", "done"] (by decide +kernel)
  rintro ρ S2 ⟨rfl, L, ⟨hL, hLn, hLl⟩, rfl⟩
  refine seq_cut (fun ρ S3 => S3 = S2 ∧ ∃ L, KL L 2 20 ∧ ρ = [some (.loc G.dk), some (.int n), some (.int h), some (.int m), some (.rol L), none, none, none, none, none]) ?_ ?_
  · have sz : L.length + 3 ≤ sizeLine := by omega
    simp [sz]
    refine ⟨fun y hy => ?_, by simp, by simp; omega⟩
    simp only [List.mem_append, List.mem_cons, List.not_mem_nil, or_false] at hy
    rcases hy with hy | rfl | rfl | rfl
    · exact hL y hy
    · exact ks_of ["yes", "yes", "done", "off"] (by decide +kernel)
    · exact ks_of ["open", "off"] (by decide +kernel)
    · exact ks_of ["open", "yes", "done"] (by decide +kernel)
  clear hL hLn hLl
  rintro ρ S3 ⟨rfl, L, ⟨hL, hLn, hLl⟩, rfl⟩
  refine seq_cut (fun ρ S4 => ∃ ks : List Str, 2 ≤ ks.length ∧ ks.length ≤ 5 ∧ Ks4 ks ∧ (ks.getD 0 "" = "open" ∨ ks.getD 0 "" = "yes") ∧ ρ = [some (.loc G.dk), some (.int n), some (.int h), some (.int m), some (.rol L), some (.tup (ks.map D.str)), some (.rol []), none, none, none] ∧ G.ok S4 ∧ FQ G.own S3 S4) ?_ ?_
  · simp only [w_asg, w_tup, w_cons, w_call, w_v, w_nil]
    simp
    refine (pick_all hd (KsOk 2) hLn (by omega) hL fun y ⟨ks, e, _⟩ => by rw [e]; exact lf_ks ks).at0 hS ?_
    rintro d S4 ⟨ks, rfl, q1, q2, q3, q4⟩ h4' f4
    simp only [List.getD_eq_getElem?_getD] at q4
    simp
    exact ⟨ks, q1, q2, q3, q4, rfl, h4', f4⟩
  rintro ρ S4 ⟨ks, k2, k5, kf, k0, rfl, h4', f4⟩
  refine seq_cut (fun ρ S5 => S5 = S4 ∧ ρ = [some (.loc G.dk), some (.int n), some (.int h), some (.int m), some (.rol L), some (.tup (ks.map D.str)), some (.rol []), some (.rol ((stL ks).map fun i => D.int (i : Nat))), none, none]) ?_ ?_
  · have en : ((ks.length : Int) - 1).toNat = ks.length - 1 := by omega
    have rk : rngOk ((ks.length : Int) - 1) = true := by
      have := rng_small (n := ks.length - 1) (by omega)
      rwa [show (((ks.length - 1 : Nat)) : Int) = (ks.length : Int) - 1 by omega] at this
    simp [wipeE, rk, en]
    rw [starts_comp (by omega) _ (by simp) rfl (by decide), wO_some]
    simp
  rintro ρ S5 ⟨rfl, rfl⟩
  obtain ⟨r0, er⟩ := stL_first k2 k0
  refine seq_cut (fun ρ S6 => ∃ (rs : List Rw) (y8 : Option D), rs.length ≤ 4 ∧ (∀ r ∈ rs, RwK n h ks r) ∧ ρ = [some (.loc G.dk), some (.int n), some (.int h), some (.int m), some (.rol L), some (.tup (ks.map D.str)), some (.rol (rs.map rwD)), some (.rol ((stL ks).map fun i => D.int (i : Nat))), y8, none] ∧ G.ok S6 ∧ FQ G.own S3 S6) ?_ ?_
  · simp [rng_small (n := m) (by omega)]
    refine for_w (fun ds ρ S6 => ∃ (rs : List Rw) (y8 : Option D), rs.length + ds.length ≤ 4 ∧ (∀ r ∈ rs, RwK n h ks r) ∧ (∀ d ∈ ds, ∃ i, d = .int i) ∧ ρ = [some (.loc G.dk), some (.int n), some (.int h), some (.int m), some (.rol L), some (.tup (ks.map D.str)), some (.rol (rs.map rwD)), some (.rol ((stL ks).map fun i => D.int (i : Nat))), y8, none] ∧ G.ok S6 ∧ FQ G.own S3 S6)
      (fun _ _ => False) (fun _ _ => False) (fun _ _ _ _ => rfl) ?_ ?_ (fun _ _ h => h.elim) (fun _ _ h => h.elim) _ _ _ ⟨[], none, by rw [rngL_len]; simp; omega, by simp, fun d q => by obtain ⟨i, e, _⟩ := rngL_int _ _ q; exact ⟨i, e⟩, rfl, h4', f4⟩
    · rintro d ds ρ S6 ⟨rs, y8, hl, hr, hi, rfl, h6, f6⟩
      obtain ⟨i, rfl⟩ := hi d (by simp)
      have hi' : ∀ d ∈ ds, ∃ i, d = .int i := fun d q => hi d (by simp [q])
      rw [List.length_cons] at hl
      have step : ∀ (st : Nat) (S7 : Sto), st < ks.length → (ks.getD st "" = "open" ∨ ks.getD st "" = "yes") → G.ok S7 → FQ G.own S3 S7 → ∀ {E : D × Sto → Prop}, (∀ (rs' : List Rw) S8, rs'.length ≤ rs.length + 1 → (∀ r ∈ rs', RwK n h ks r) → G.ok S8 → FQ G.own S3 S8 → E (.rol (rs'.map rwD), S8)) →
          wO (z__law_row_drawn [.loc G.dk, .int n, .int h, .tup (ks.map D.str), .int st] S7) fun p => wO (addX true (.rol (rs.map rwD)) p.1 p.2) E := fun st S7 h1 h2 h7 f7 E k => by
        refine (row_drawn hd h4 (by omega) h1 h2).at0 h7 ?_
        rintro d S8 ⟨r1, rfl, r1l, r1o⟩ h8 f8
        have sz : (rs.map rwD).length + (r1.map rwD).length ≤ sizeLine := by simp; omega
        simp only [addX_rol, if_pos sz, wO_some]
        have := k (rs ++ r1) S8 (by simp; omega) (fun r hr' => by
          rcases List.mem_append.mp hr' with q | q
          · exact hr r q
          · exact r1o r q) h8 (f7.trans f8)
        rw [List.map_append] at this
        exact this
      refine wO_some.mpr ?_
      simp
      by_cases i0 : i = 0
      · refine .inr ⟨i0, ?_⟩
        have a0 : atI ((stL ks).map fun i => D.int (i : Nat)) 0 = some (.int (0 : Nat)) := by
          rw [er, List.map_cons, atI_get (by omega) (by simp)]
          rfl
        simp [a0]
        refine step 0 S6 (by omega) k0 h6 f6 fun rs' S8 q1 q2 h8 f8 => ?_
        simp
        exact ⟨rs', by omega, q2, hi', rfl, h8, f8⟩
      · refine .inl ⟨i0, ?_⟩
        refine (pick_st hd (by omega) (by rw [er]; simp)).at0 h6 ?_
        rintro d S7 ⟨st, rfl, s1, s2⟩ h7 f7
        simp
        refine step st S7 s1 s2 h7 (f6.trans f7) fun rs' S8 q1 q2 h8 f8 => ?_
        simp
        exact ⟨rs', by omega, q2, hi', rfl, h8, f8⟩
    · rintro ρ S6 ⟨rs, y8, hl, hr, hi, rfl, h6, f6⟩
      exact ⟨rs, by simpa using hl, hr, ⟨y8, rfl⟩, h6, f6⟩
  rintro ρ S6 ⟨rs, y8, hl, hr, rfl, h6, f6⟩
  have fin := bk_of (n := n) (h := h) (by omega) k5 kf k0 hr hl
  simp [tr]
  exact Ret.val0 h6 f6 fin (bkv_lf fin)
end K49

namespace K49
open PySem L2 DD
variable {G : Deal} {S : Sto} {n h : Nat} {ks : List Str}
theorem wide_book (hd : Draws G z__law_take) (h4 : n ≤ 4) : Dsp G z__law_wide_book [.loc G.dk, .int n, .int h] (BkV n h) := by
  have nat : sizeLine = 16777216 := by decide
  refine Dsp.of fun S hS => ?_
  refine w_fn rfl ?_
  refine seq_cut (fun ρ S2 => S2 = S ∧ ∃ L, KL L 1 10 ∧ ρ = [some (.loc G.dk), some (.int n), some (.int h), some (.rol L), none, none, none, none, none]) ?_ ?_
  · simp
    refine ⟨fun y hy => ?_, by simp, by simp⟩
    simp only [List.mem_cons, List.not_mem_nil, or_false] at hy
    rcases hy with rfl | rfl | rfl | rfl
    · exact ks_of ["yes", "done", "yes", "done"] (by decide +kernel)
    · exact ks_of ["open", "yes", "yes", "done", "done"] (by decide +kernel)
    · exact ks_of ["open", "off"] (by decide +kernel)
    · exact ks_of ["yes"] (by decide +kernel)
  rintro ρ S2 ⟨rfl, L, ⟨hL, hLn, hLl⟩, rfl⟩
  refine seq_cut (fun ρ S4 => ∃ ks : List Str, 1 ≤ ks.length ∧ ks.length ≤ 5 ∧ Ks4 ks ∧ (ks.getD 0 "" = "open" ∨ ks.getD 0 "" = "yes") ∧ ρ = [some (.loc G.dk), some (.int n), some (.int h), some (.rol L), some (.tup (ks.map D.str)), none, none, none, none] ∧ G.ok S4 ∧ FQ G.own S2 S4) ?_ ?_
  · simp
    refine (pick_all hd (KsOk 1) hLn (by omega) hL fun y ⟨ks, e, _⟩ => by rw [e]; exact lf_ks ks).at0 hS ?_
    rintro d S4 ⟨ks, rfl, q1, q2, q3, q4⟩ h4' f4
    simp only [List.getD_eq_getElem?_getD] at q4
    simp
    exact ⟨ks, by omega, q2, q3, q4, rfl, h4', f4⟩
  rintro ρ S4 ⟨ks, k1, k5, kf, k0, rfl, h4', f4⟩
  refine seq_cut (fun ρ S5 => ρ = [some (.loc G.dk), some (.int n), some (.int h), some (.rol L), some (.tup (ks.map D.str)), none, none, none, none] ∧ G.ok S5 ∧ FQ G.own S2 S5) ?_ ?_
  · simp
    refine (hd 2 (by omega)).at0 h4' ?_
    rintro d S5 ⟨v, rfl, _, _⟩ h5 f5
    simp
    by_cases v0 : v = 0
    · refine .inr ⟨v0, ?_⟩
      refine (hd 5 (by omega)).at0 h5 ?_
      rintro d S6 ⟨m, rfl, m0, m1⟩ h6 f6
      have := m1 (by omega)
      obtain ⟨c, rfl, hc⟩ : ∃ c : Nat, m = c ∧ c ≤ 4 := ⟨m.toNat, by omega, by omega⟩
      simp
      refine (book_drawn hd h4 hc).at0 h6 ?_
      rintro d S7 hb h7 f7
      exact Ret.val0 h7 (f4.trans (f5.trans (f6.trans f7))) hb (bkv_lf hb)
    · exact .inl ⟨v0, h5, f4.trans f5⟩
  clear f4 h4'
  rintro ρ S5 ⟨rfl, h4', f4⟩
  refine seq_cut (fun ρ S6 => S6 = S5 ∧ ρ = [some (.loc G.dk), some (.int n), some (.int h), some (.rol L), some (.tup (ks.map D.str)), some (.rol []), some (.rol ((stL ks).map fun i => D.int (i : Nat))), none, none]) ?_ ?_
  · have en : ((ks.length : Int) - 1).toNat = ks.length - 1 := by omega
    have rk : rngOk ((ks.length : Int) - 1) = true := by
      have := rng_small (n := ks.length - 1) (by omega)
      rwa [show (((ks.length - 1 : Nat)) : Int) = (ks.length : Int) - 1 by omega] at this
    simp [wipeE, rk, en]
    rw [starts_comp (by omega) _ (by simp) rfl (by decide), wO_some]
    simp
  rintro ρ S6 ⟨rfl, rfl⟩
  have lst := lay_st (ks := ks) (by omega)
  refine seq_cut (fun ρ S7 => ∃ (rs : List Rw) (y8 : Option D), rs.length ≤ 4 ∧ (∀ r ∈ rs, RwK n h ks r) ∧ ρ = [some (.loc G.dk), some (.int n), some (.int h), some (.rol L), some (.tup (ks.map D.str)), some (.rol (rs.map rwD)), some (.rol ((stL ks).map fun i => D.int (i : Nat))), y8, none] ∧ G.ok S7 ∧ FQ G.own S2 S7) ?_ ?_
  · have body : ∀ (c : Nat) (S7 : Sto), (c ≠ 0 → stL ks ≠ []) → c ≤ 4 → G.ok S7 → FQ G.own S2 S7 → ∀ {Q : Out → Prop}, (∀ (rs : List Rw) (y8 : Option D) S8, rs.length ≤ 4 → (∀ r ∈ rs, RwK n h ks r) → G.ok S8 → FQ G.own S2 S8 → Q (.nx [some (.loc G.dk), some (.int n), some (.int h), some (.rol L), some (.tup (ks.map D.str)), some (.rol (rs.map rwD)), some (.rol ((stL ks).map fun i => D.int (i : Nat))), y8, none] S8)) →
        wO (forL (gN 7) (fun _ => true) (mAsg (m2 (addX true) (mV 5) (mCall z__law_row_drawn (mCons (mV 0) (mCons (mV 1) (mCons (mV 2) (mCons (mV 4) (mCons (mCall z__law_pick (mCons (mV 0) (mCons (mV 6) mNil))) mNil))))))) (gN 5)) (rngL 0 c) [some (.loc G.dk), some (.int n), some (.int h), some (.rol L), some (.tup (ks.map D.str)), some (.rol []), some (.rol ((stL ks).map fun i => D.int (i : Nat))), none, none] S7) Q := fun c S7 hn hc h7 f7 Q k => by
      refine for_w (fun ds ρ S8 => ∃ (rs : List Rw) (y8 : Option D), rs.length + ds.length ≤ 4 ∧ (ds ≠ [] → stL ks ≠ []) ∧ (∀ r ∈ rs, RwK n h ks r) ∧ ρ = [some (.loc G.dk), some (.int n), some (.int h), some (.rol L), some (.tup (ks.map D.str)), some (.rol (rs.map rwD)), some (.rol ((stL ks).map fun i => D.int (i : Nat))), y8, none] ∧ G.ok S8 ∧ FQ G.own S2 S8)
        (fun _ _ => False) (fun _ _ => False) (fun _ _ _ _ => rfl) ?_ ?_ (fun _ _ h => h.elim) (fun _ _ h => h.elim) _ _ _ ⟨[], none, by rw [rngL_len]; simp; omega, fun q => hn fun e => q (by rw [e]; rfl), by simp, rfl, h7, f7⟩
      · rintro d ds ρ S8 ⟨rs, y8, hl, hne, hr, rfl, h8, f8⟩
        rw [List.length_cons] at hl
        refine wO_some.mpr ?_
        simp
        refine (pick_st hd (by omega) (hne (by simp))).at0 h8 ?_
        rintro d S9 ⟨st, rfl, s1, s2⟩ h9 f9
        simp
        refine (row_drawn hd h4 (by omega) s1 s2).at0 h9 ?_
        rintro d S10 ⟨r1, rfl, r1l, r1o⟩ h10 f10
        have sz : (rs.map rwD).length + (r1.map rwD).length ≤ sizeLine := by simp; omega
        simp only [addX_rol, if_pos sz, wO_some]
        simp
        exact ⟨rs ++ r1, by simp; omega, fun _ => hne (by simp), fun r hr' => by
          rcases List.mem_append.mp hr' with q | q
          · exact hr r q
          · exact r1o r q, by simp, h10, f8.trans (f9.trans f10)⟩
      · rintro ρ S8 ⟨rs, y8, hl, hne, hr, rfl, h8, f8⟩
        exact k rs y8 S8 (by simpa using hl) hr h8 f8
    by_cases se : stL ks = []
    · have r0 : rngOk 0 = true := by decide
      have ll : neD (.rol ((stL ks).map fun i => D.int (i : Nat))) (.rol []) S6 = some (.bl false, S6) := by rw [neD_lay lst lay_nilR, eqv_nilR, se]; rfl
      simp [ll, r0]
      exact body 0 S6 (fun q => absurd rfl q) (by omega) h4' f4 fun rs y8 S8 q1 q2 q3 q4 => ⟨rs, q1, q2, ⟨y8, rfl⟩, q3, q4⟩
    · have ll : neD (.rol ((stL ks).map fun i => D.int (i : Nat))) (.rol []) S6 = some (.bl true, S6) := by
        rw [neD_lay lst lay_nilR, eqv_nilR]
        have : ((stL ks).map fun i => D.int (i : Nat)).isEmpty = false := by simpa using se
        rw [this]
        rfl
      simp [ll]
      refine (hd 5 (by omega)).at0 h4' ?_
      rintro d S7 ⟨m, rfl, m0, m1⟩ h7 f7
      have := m1 (by omega)
      obtain ⟨c, rfl, hc⟩ : ∃ c : Nat, m = c ∧ c ≤ 4 := ⟨m.toNat, by omega, by omega⟩
      simp [rng_small (n := c) (by omega)]
      exact body c S7 (fun _ => se) hc h7 (f4.trans f7) fun rs y8 S8 q1 q2 q3 q4 => ⟨rs, q1, q2, ⟨y8, rfl⟩, q3, q4⟩
  rintro ρ S7 ⟨rs, y8, hl, hr, rfl, h7, f7⟩
  have fin := bk_of (n := n) (h := h) k1 k5 kf k0 hr hl
  simp [tr]
  exact Ret.val0 h7 f7 fin (bkv_lf fin)
end K49

namespace K49
open PySem L2 DD
variable {G : Deal} {S : Sto} {n h : Nat} {ks : List Str} {w : Str}
def endsFrom : Nat → List Str → List Nat
  | _, [] => []
  | k, x :: xs => if x = "done" then k :: endsFrom (k + 1) xs else endsFrom (k + 1) xs
abbrev endsL (ks : List Str) : List Nat := endsFrom 0 ks
def natD (xs : List Nat) : List D := xs.map fun i => D.int (i : Nat)
def yesD (k : Str) : Str := if k = "done" then "yes" else k
def ltP (n h : Nat) (w : Str) : List Pr := (othL n h).map fun o => (o, w)
def rw2 (ends : List Nat) (ls : List Pr) (r : Rw) : Rw := if r.on ∈ ends then ⟨r.st, r.tk, r.on, r.sd ++ ls, false⟩ else r
def endRows (m : Nat) (ls : List Pr) : Nat → List Nat → List Rw
  | _, [] => []
  | p, e :: es => ⟨e, ls, m + p, [], false⟩ :: endRows m ls (p + 1) es
def mendB (n h : Nat) (w : Str) (b : Bk) : Bk := ⟨b.ks.map yesD ++ List.replicate (endsL b.ks).length ("done" : Str), b.rs.map (rw2 (endsL b.ks) (ltP n h w)) ++ endRows b.ks.length (ltP n h w) 0 (endsL b.ks)⟩
theorem ends_len : ∀ (k : Nat) (xs : List Str), (endsFrom k xs).length ≤ xs.length
  | _, [] => Nat.le_refl _
  | k, x :: xs => by
    have := ends_len (k + 1) xs
    unfold endsFrom
    split <;> simp <;> omega
theorem numL_cons {k : Nat} {d : D} {ds : List D} : numL k (d :: ds) = .tup [.int k, d] :: numL (k + 1) ds := rfl
theorem numL_len' (ds : List D) (k : Nat) : (numL k ds).length = ds.length := numL_len ds k
theorem ends_num : ∀ (k : Nat) (xs : List Str), ((numL k (xs.map D.str)).filter fun d => match d with | .tup [_, .str z] => decide (z = "done") | _ => false).map (fun d => match d with | .tup [i, _] => i | _ => .non) = natD (endsFrom k xs)
  | _, [] => rfl
  | k, x :: xs => by
    have ih := ends_num (k + 1) xs
    rw [List.map_cons, numL_cons, List.filter_cons]
    unfold endsFrom
    by_cases q : x = "done"
    · rw [if_pos (by simp [q]), if_pos q, List.map_cons, ih]
      rfl
    · rw [if_neg (by simp [q]), if_neg q, ih]
theorem comp_ends {i j : Nat} (hl : ks.length ≤ 8) (ρ : DD.Env) (hi : i < ρ.length) (hj : j < ρ.length) (ne : i ≠ j) :
    compL (gT (gsCons (gN i) (gsCons (gN j) gsNil))) (fun _ => true) (mB (m2 eqD (mV j) (mC (.str "done")))) (mV i) ρ (numL 0 (ks.map D.str)) [] S = some (natD (endsL ks), S) := by
  have nat : sizeLine = 16777216 := by decide
  rw [comp_fm (fun d => match d with | .tup [_, .str z] => decide (z = "done") | _ => false) (fun d => match d with | .tup [i, _] => i | _ => .non) _ [] (fun d hd => by
    obtain ⟨k, hk⟩ := List.mem_iff_getElem?.mp hd
    obtain ⟨e, he, rfl⟩ := numL_get _ _ _ _ hk
    obtain ⟨z, _, rfl⟩ := List.mem_map.mp (List.mem_of_getElem? he)
    have qj : ∀ x y : Option D, ((ρ.set i x).set j y)[j]? = some y := fun x y => List.getElem?_set_self (by rw [List.length_set]; exact hj)
    have qi : ∀ x : Option D, (ρ.set i x)[i]? = some x := fun x => List.getElem?_set_self hi
    simp [qj, qi, List.getElem?_set_ne (Ne.symm ne)]
    by_cases q : z = "done" <;> simp [q]) (by rw [numL_len']; simp; omega)]
  rw [List.nil_append, ends_num]
theorem comp_kinds {j : Nat} (hl : ks.length ≤ 8) (ρ : DD.Env) (hj : j < ρ.length) :
    compL (gN j) (fun _ => true) mYes (mIf (mB (m2 eqD (mV j) (mC (.str "done")))) (mC (.str "yes")) (mV j)) ρ (ks.map D.str) [] S = some ((ks.map yesD).map D.str, S) := by
  have nat : sizeLine = 16777216 := by decide
  rw [comp_m (fun d => match d with | .str z => .str (yesD z) | _ => .non) _ [] (fun d hd => by
    obtain ⟨z, _, rfl⟩ := List.mem_map.mp hd
    have qj : ∀ y : Option D, (ρ.set j y)[j]? = some y := fun y => List.getElem?_set_self hj
    simp [qj, yesD]
    by_cases q : z = "done" <;> simp [q]) (by simp; omega)]
  rw [List.nil_append, List.map_map, List.map_map]
  rfl
theorem comp_oth {j v : Nat} {el : Ex} {f : Nat → D} (h4 : n ≤ 4) (ρ : DD.Env) (hj : j < ρ.length) (hv : ρ[v]? = some (some (.int h))) (ne : v ≠ j) (hel : ∀ o : Nat, wO (el (ρ.set j (some (.int o))) S) fun y => y = (f o, S)) :
    compL (gN j) (fun _ => true) (mB (m2 neD (mV j) (mV v))) el ρ (rngL 0 n) [] S = some ((othL n h).map f, S) := by
  have nat : sizeLine = 16777216 := by decide
  rw [rngL_zero]
  rw [comp_fm (fun d => match d with | .int i => decide (i.toNat ≠ h) | _ => false) (fun d => match d with | .int i => f i.toNat | _ => .non) _ [] (fun d hd => by
    obtain ⟨o, ho, rfl⟩ := List.mem_map.mp hd
    have qj : ∀ y : Option D, (ρ.set j y)[j]? = some y := fun y => List.getElem?_set_self hj
    have qv : ∀ y : Option D, (ρ.set j y)[v]? = some (some (.int h)) := fun y => by rw [List.getElem?_set_ne (Ne.symm ne)]; exact hv
    have he := hel o
    simp [qj, qv]
    by_cases q : o = h
    · subst q; simp
    · have q' : ¬ (o : Int) = h := by omega
      simp [q, q']
      exact he) (by simp; omega)]
  rw [List.nil_append, List.filter_map, List.map_map]
  rfl
theorem nat_mem {i : Nat} (xs : List Nat) (S : Sto) : inD (.int i) (.rol (natD xs)) S = some (.bl (decide (i ∈ xs)), S) := by
  have f : (natD xs).all flatD = true := by
    rw [natD, List.all_map, List.all_eq_true]
    intro x _
    rfl
  have g : ((natD xs).any fun y => eqF y (.int i)) = decide (i ∈ xs) := by
    unfold natD
    rw [List.any_map]
    induction xs with
    | nil => simp
    | cons x xs ih =>
      rw [List.any_cons, ih (by rw [natD, List.all_map, List.all_eq_true]; intro x _; rfl)]
      simp only [Function.comp, eqF, List.mem_cons]
      by_cases q : x = i
      · subst q; simp
      · have q' : ¬ i = x := fun e => q e.symm
        have q2 : ¬ (x : Int) = i := by omega
        simp [q', q2]
  unfold inD inB
  rw [show seqOf S (.rol (natD xs)) = some (natD xs) from rfl, Option.bind_some, if_pos ⟨rfl, f⟩, g]
  rfl
theorem mul_done {d : D} {c : Nat} (hc : c ≤ 100) (S : Sto) : mulB (.tup [d]) (.int c) S = some (.tup (List.replicate c d), S) := by
  have fl : ∀ m : Nat, (List.replicate m [d]).flatten = List.replicate m d := fun m => by
    induction m with
    | zero => rfl
    | succ m ih => rw [List.replicate_succ, List.flatten_cons, ih]; rfl
  simp only [mulB, mulA]
  by_cases q : c = 0
  · subst q; simp
  · rw [if_pos (by omega), if_pos ⟨by omega, by omega, by simp⟩, Int.toNat_natCast, fl]
theorem endRows_num (m : Nat) (ls : List Pr) : ∀ (p : Nat) (es : List Nat), (numL p (natD es)).map (fun d => match d with | .tup [.int i, e] => D.tup [e, .tup (ls.map DD.prD), .int ((m : Int) + i), .tup [], .bl false] | _ => .non) = (endRows m ls p es).map rwD
  | _, [] => rfl
  | p, e :: es => by
    have ih := endRows_num m ls (p + 1) es
    rw [natD, List.map_cons, numL_cons, List.map_cons]
    rw [natD] at ih
    rw [ih]
    simp [endRows, rwD]
theorem with_letters {r : Rw} {ls : List Pr} (hs : r.sd.length ≤ 100) (hl : ls.length ≤ 100) : Pu z__with_letters [rwD r, .tup (ls.map DD.prD)] (rwD ⟨r.st, r.tk, r.on, r.sd ++ ls, false⟩) := Pu.of0 (lf_rw _) fun S => by
  have nat : sizeLine = 16777216 := by decide
  have sz : (r.sd.map DD.prD).length + (ls.map DD.prD).length ≤ sizeLine := by simp; omega
  refine w_fn rfl ?_
  simp at sz
  simp [rwD, sz]
theorem oth_len (n h : Nat) : (othL n h).length ≤ n := by
  unfold othL
  have := List.length_filter_le (p := fun o => decide (o ≠ h)) (l := List.range n)
  rwa [List.length_range] at this
def rwI : D → Rw
  | .tup [.int st, .tup tk, .int on, .tup sd, .bl lt] => ⟨st.toNat, tk.map prI, on.toNat, sd.map prI, lt⟩
  | _ => ⟨0, [], 0, [], false⟩
theorem rwI_rwD (r : Rw) : rwI (rwD r) = r := by
  have e : ∀ ps : List Pr, (ps.map DD.prD).map prI = ps := fun ps => by rw [List.map_map, show ps.map (prI ∘ DD.prD) = ps.map id from List.map_congr_left fun q _ => rfl, List.map_id]
  simp only [rwD, rwI, e, Int.toNat_natCast]
theorem endRows_len (m : Nat) (ls : List Pr) : ∀ (p : Nat) (es : List Nat), (endRows m ls p es).length = es.length
  | _, [] => rfl
  | p, e :: es => by simp [endRows, endRows_len m ls (p + 1) es]
theorem at_map {a : Ag} {i : Nat} {b : Bk} (h : a[i]? = some b) : atI (a.map bkD) (i : Int) = some (bkD b) := by
  have hl : i < a.length := (List.getElem?_eq_some_iff.mp h).1
  rw [atI_get (by omega) (by rw [List.length_map]; omega)]
  simp [h]
theorem mended_book {a : Ag} {b : Bk} (hb : a[h]? = some b) (ha : a.length ≤ 4) (hk : b.ks.length ≤ 8) (hr : b.rs.length ≤ 12) (hs : ∀ r ∈ b.rs, r.sd.length ≤ 6) : Pu z__mended_book [agD a, .int h, .str w] (bkD (mendB a.length h w b)) := Pu.of0 (lf_bk _) fun S => by
  have nat : sizeLine = 16777216 := by decide
  have el : (endsL b.ks).length ≤ b.ks.length := ends_len 0 b.ks
  have en : enumI (.rol (natD (endsL b.ks))) S = some (numL 0 (natD (endsL b.ks)), (fun _ => true), S) := rfl
  have ol := oth_len a.length h
  have am := at_map hb
  refine w_fn rfl ?_
  refine seq_cut (fun ρ S' => S = S' ∧ ρ = [some (agD a), some (.int h), some (.str w), some (.tup (b.ks.map D.str)), some (.tup (b.rs.map rwD)), none, none, none, none, none, none, none, none, none, none]) ?_ ?_
  · simp [agD, am, bkD]
  rintro ρ S' ⟨rfl, rfl⟩
  refine seq_cut (fun ρ S' => S = S' ∧ ρ = [some (agD a), some (.int h), some (.str w), some (.tup (b.ks.map D.str)), some (.tup (b.rs.map rwD)), some (.rol (natD (endsL b.ks))), none, none, none, none, none, none, none, none, none]) ?_ ?_
  · simp [wipeE]
    rw [comp_ends hk _ (by simp) (by simp) (by decide), wO_some]
    simp
  rintro ρ S' ⟨rfl, rfl⟩
  refine seq_cut (fun ρ S' => S = S' ∧ ρ = [some (agD a), some (.int h), some (.str w), some (.tup (b.ks.map D.str)), some (.tup (b.rs.map rwD)), some (.rol (natD (endsL b.ks))), some (.tup ((ltP a.length h w).map DD.prD)), none, none, none, none, none, none, none, none]) ?_ ?_
  · have ln : ∀ S, lenD (agD a) S = some (.int a.length, S) := fun S => by simp [agD, lenD]
    simp [wipeE, ln, rng_small (n := a.length) (by omega)]
    rw [comp_oth (h := h) (f := fun o => D.tup [.int o, .str w]) ha _ (by simp) rfl (by decide) (fun o => by simp), wO_some]
    simp [ltP, DD.prD, tr]
  rintro ρ S' ⟨rfl, rfl⟩
  refine seq_cut (fun ρ S' => S = S' ∧ ρ = [some (agD a), some (.int h), some (.str w), some (.tup (b.ks.map D.str)), some (.tup (b.rs.map rwD)), some (.rol (natD (endsL b.ks))), some (.tup ((ltP a.length h w).map DD.prD)), some (.tup ((mendB a.length h w b).ks.map D.str)), none, none, none, none, none, none, none]) ?_ ?_
  · simp [wipeE]
    rw [comp_kinds hk _ (by simp), wO_some]
    have sz : (b.ks.map yesD).length + (endsL b.ks).length ≤ sizeLine := by simp; omega
    have nl : (natD (endsL b.ks)).length = (endsL b.ks).length := by simp [natD]
    simp at sz
    simp [tr, nl, mul_done (c := (endsL b.ks).length) (by omega), sz, mendB]
  rintro ρ S' ⟨rfl, rfl⟩
  refine seq_cut (fun ρ S' => S = S' ∧ ρ = [some (agD a), some (.int h), some (.str w), some (.tup (b.ks.map D.str)), some (.tup (b.rs.map rwD)), some (.rol (natD (endsL b.ks))), some (.tup ((ltP a.length h w).map DD.prD)), some (.tup ((mendB a.length h w b).ks.map D.str)), some (.tup ((b.rs.map (rw2 (endsL b.ks) (ltP a.length h w))).map rwD)), none, none, none, none, none, none]) ?_ ?_
  · simp [wipeE]
    have r2 : ∀ r : Rw, atI [D.int r.st, .tup (r.tk.map DD.prD), .int r.on, .tup (r.sd.map DD.prD), .bl r.lt] 2 = some (.int r.on) := fun _ => rfl
    have ll : (ltP a.length h w).length ≤ 4 := by unfold ltP; rw [List.length_map]; omega
    have each : ∀ r ∈ b.rs, ∀ (ρ : DD.Env), 13 < ρ.length → ρ[5]? = some (some (.rol (natD (endsL b.ks)))) → ρ[6]? = some (some (.tup ((ltP a.length h w).map DD.prD))) →
        wO (mIf (mB (m2 inD (m2 ixD (mV 13) (mC (.int 2))) (mV 5))) (mCall z__with_letters (mCons (mV 13) (mCons (mV 6) mNil))) (mV 13) (ρ.set 13 (some (rwD r))) S) fun y => y = (rwD (rw2 (endsL b.ks) (ltP a.length h w) r), S) := fun r hr' ρ hl g5 g6 => by
      have q13 : (ρ.set 13 (some (rwD r)))[13]? = some (some (rwD r)) := List.getElem?_set_self hl
      have q5 : (ρ.set 13 (some (rwD r)))[5]? = some (some (.rol (natD (endsL b.ks)))) := by rw [List.getElem?_set_ne (by decide)]; exact g5
      have q6 : (ρ.set 13 (some (rwD r)))[6]? = some (some (.tup ((ltP a.length h w).map DD.prD))) := by rw [List.getElem?_set_ne (by decide)]; exact g6
      have ix : ixD (rwD r) (.int 2) S = some (.int r.on, S) := by simp [rwD, r2]
      simp only [w_if, w_b, w_m2, w_v, w_c, w_call, w_cons, w_nil, q13, q5, q6, Option.some.injEq, exists_eq_left', ix, wO_some, nat_mem]
      by_cases q : r.on ∈ endsL b.ks
      · simp [q, (with_letters (r := r) (ls := ltP a.length h w) (by have := hs r hr'; omega) (by omega)).w, rw2]
      · simp [q, rw2]
    rw [comp_m (fun d => rwD (rw2 (endsL b.ks) (ltP a.length h w) (rwI d))) _ [] (fun d hd => by
      obtain ⟨r, hr', rfl⟩ := List.mem_map.mp hd
      rw [w_gN, rwI_rwD]
      exact each r hr' _ (by simp) rfl rfl) (by simp; omega), wO_some]
    rw [List.nil_append, List.map_map]
    simp only [tr, wO_some]
    simp [rwI_rwD]
  rintro ρ S' ⟨rfl, rfl⟩
  refine seq_cut (fun ρ S' => S = S' ∧ ∃ y, ρ = [some (agD a), some (.int h), some (.str w), some (.tup (b.ks.map D.str)), some (.tup (b.rs.map rwD)), some (.rol (natD (endsL b.ks))), some (.tup ((ltP a.length h w).map DD.prD)), some (.tup ((mendB a.length h w b).ks.map D.str)), some (.tup ((b.rs.map (rw2 (endsL b.ks) (ltP a.length h w))).map rwD)), some (.tup ((endRows b.ks.length (ltP a.length h w) 0 (endsL b.ks)).map rwD)), y, none, none, none, none]) ?_ ?_
  · simp [wipeE, en]
    rw [comp_m (fun d => match d with | .tup [.int i, e] => D.tup [e, .tup ((ltP a.length h w).map DD.prD), .int ((b.ks.length : Int) + i), .tup [], .bl false] | _ => .non) _ [] (fun d hd => by
      obtain ⟨k, hk'⟩ := List.mem_iff_getElem?.mp hd
      obtain ⟨e, he, rfl⟩ := numL_get _ _ _ _ hk'
      simp) (by rw [numL_len']; simp [natD]; omega), wO_some]
    rw [List.nil_append, endRows_num]
    simp [tr]
  rintro ρ S' ⟨rfl, y, rfl⟩
  have sz : (b.rs.map (rw2 (endsL b.ks) (ltP a.length h w))).length + (endRows b.ks.length (ltP a.length h w) 0 (endsL b.ks)).length ≤ sizeLine := by rw [endRows_len, List.length_map]; omega
  rw [List.length_map] at sz
  simp [sz, mendB, bkD]
end K49

namespace DD
open PySem L2
section
variable {gm : Gm} {chk : Sto → Bool} {tt : Tx} {next : DD.Env → Sto → Option Sto} {nx : Nat → DD.Env → Sto → Option Sto} {ρ : DD.Env} {A : Sto → Prop} {it : Im} {vs : List Nat} {n : Nat} {S : Sto} {el : Ex}
theorem compO_w (P : List D → Sto → Prop) (hc : ∀ ds S, P ds S → chk S = true)
    (hs : ∀ d ds S, P (d :: ds) S → wO (gm d ρ) fun ρ1 => wO (tt ρ1 S) fun b => (b.1 = true → wO (next ρ1 b.2) (P ds)) ∧ (b.1 = false → P ds b.2)) (hn : ∀ S, P [] S → A S) : ∀ (ds : List D) (S : Sto), P ds S → wO (compO gm chk tt next ρ ds S) A
  | [], S, h => by
    unfold compO
    rw [if_pos (hc _ _ h), wO_some]
    exact hn S h
  | d :: ds, S, h => by
    unfold compO
    rw [if_pos (hc _ _ h), wO_bind]
    refine (hs d ds S h).imp fun ρ1 h1 => ?_
    rw [wO_bind]
    refine h1.imp fun b hb => ?_
    rw [wO_ite]
    refine ⟨fun q => ?_, fun q => compO_w P hc hs hn ds b.2 (hb.2 (by simpa using q))⟩
    rw [wO_bind]
    exact (hb.1 q).imp fun S2 h2 => compO_w P hc hs hn ds S2 h2
theorem w_innerN : wO (innerN it gm tt vs nx n ρ S) A ↔ wO (it ρ S) fun p => wO (compO gm p.2.1 tt (nx n) (wipeE ρ vs) p.1 p.2.2) A := by unfold innerN; simp
theorem w_lastN : wO (lastN el n ρ S) A ↔ wO (el ρ S) fun y => wO (appD (.loc n) y.1 y.2) fun z => A z.2 := by unfold lastN; simp
end
end DD
namespace K49
open PySem L2 DD
variable {G : Deal} {S : Sto} {n h : Nat} {ks : List Str} {w : Str}
theorem app_end {S : Sto} {acc : List D} {x : D} (h : acc.length < 1000) : appD (.loc S.length) x (S ++ [.lst acc]) = some (.non, S ++ [.lst (acc ++ [x])]) := by
  have sz : sizeLine = 16777216 := by decide
  have e : (S ++ [Cell.lst acc])[S.length]? = some (.lst acc) := by simp
  rw [app_loc e (by omega)]
  congr 2
  simp
def WordsV (d : D) : Prop := ∃ ws : List Str, d = .rol (ws.map D.str) ∧ ∀ z ∈ ws, z ∈ AB
def V1 (S : Sto) (a : Ag) (ds : List D) (Sx : Sto) : Prop := ∃ (ws : List Str) (a' : Ag), ds = a'.map bkD ∧ (∀ b ∈ a', b ∈ a) ∧ Sx = S ++ [.lst (ws.map D.str)] ∧ (∀ z ∈ ws, z ∈ AB) ∧ ws.length + 120 * a'.length ≤ 480
def V2 (S : Sto) (rs : List Rw) (k : Nat) (ds2 : List D) (Sx : Sto) : Prop := ∃ (ws : List Str) (rs' : List Rw), ds2 = rs'.map rwD ∧ (∀ r ∈ rs', r ∈ rs) ∧ Sx = S ++ [.lst (ws.map D.str)] ∧ (∀ z ∈ ws, z ∈ AB) ∧ ws.length + 10 * rs'.length + 120 * k ≤ 480
def V3 (S : Sto) (qs : List Pr) (k : Nat) (ds3 : List D) (Sx : Sto) : Prop := ∃ (ws : List Str) (ps : List Pr), ds3 = ps.map DD.prD ∧ (∀ p ∈ ps, p ∈ qs) ∧ Sx = S ++ [.lst (ws.map D.str)] ∧ (∀ z ∈ ws, z ∈ AB) ∧ ws.length + ps.length + k ≤ 480
theorem words_ok {a : Ag} (ha : a.length ≤ 4) (hb : ∀ b ∈ a, b.rs.length ≤ 12 ∧ ∀ r ∈ b.rs, r.tk.length ≤ 4 ∧ r.sd.length ≤ 6 ∧ ∀ p ∈ r.tk ++ r.sd, p.2 ∈ AB) : Dsp G z__words [agD a] WordsV := by
  have nat : sizeLine = 16777216 := by decide
  refine Dsp.of fun S hS => ?_
  refine w_fn rfl ?_
  simp [agD, wipeE]
  refine compO_w (V1 S a) (fun _ _ _ => rfl) ?_ ?_ _ _ ⟨[], a, rfl, fun _ h => h, rfl, by simp, by simp; omega⟩
  · rintro d ds Sx ⟨ws, a', hds, hm, rfl, hw, hl⟩
    cases a' with
    | nil => cases hds
    | cons b a' =>
      cases hds
      obtain ⟨b1, b2⟩ := hb b (hm b (by simp))
      rw [List.length_cons] at hl
      simp [bkD, w_innerN, wipeE]
      refine compO_w (V2 S b.rs a'.length) (fun _ _ _ => rfl) ?_ ?_ _ _ ⟨ws, b.rs, rfl, fun _ h => h, rfl, hw, by omega⟩
      · rintro d ds2 Sx ⟨ws, rs', hds2, hm2, rfl, hw, hl⟩
        cases rs' with
        | nil => cases hds2
        | cons r rs' =>
          cases hds2
          obtain ⟨r1, r2, r3⟩ := b2 r (hm2 r (by simp))
          rw [List.length_cons] at hl
          have x1 : ∀ r : Rw, atI [D.int r.st, .tup (r.tk.map DD.prD), .int r.on, .tup (r.sd.map DD.prD), .bl r.lt] 1 = some (.tup (r.tk.map DD.prD)) := fun _ => rfl
          have x3 : ∀ r : Rw, atI [D.int r.st, .tup (r.tk.map DD.prD), .int r.on, .tup (r.sd.map DD.prD), .bl r.lt] 3 = some (.tup (r.sd.map DD.prD)) := fun _ => rfl
          have sz : r.tk.length + r.sd.length ≤ sizeLine := by omega
          simp [rwD, w_innerN, wipeE, x1, x3, sz]
          refine compO_w (V3 S (r.tk ++ r.sd) (10 * rs'.length + 120 * a'.length)) (fun _ _ _ => rfl) ?_ ?_ _ _ ⟨ws, r.tk ++ r.sd, by simp, fun _ h => h, rfl, hw, by simp; omega⟩
          · rintro d ds3 Sx ⟨ws, ps, hds3, hm3, rfl, hw, hl⟩
            cases ps with
            | nil => cases hds3
            | cons p ps =>
              cases hds3
              rw [List.length_cons] at hl
              have wl : (ws.map D.str).length < 1000 := by simp; omega
              simp [DD.prD, w_lastN, app_end wl]
              exact ⟨ws ++ [p.2], ps, rfl, fun q hq => hm3 q (by simp [hq]), by simp, fun z hz => by
                  rcases List.mem_append.mp hz with q | q
                  · exact hw z q
                  · rw [List.mem_singleton.mp q]; exact r3 p (hm3 p (by simp)), by simp; omega⟩
          · rintro Sx ⟨ws, ps, hds3, hm3, rfl, hw, hl⟩
            cases ps with
            | cons p ps => cases hds3
            | nil => exact ⟨ws, rs', rfl, fun r hr => hm2 r (by simp [hr]), rfl, hw, by simp at hl; omega⟩
      · rintro Sx ⟨ws, rs', hds2, hm2, rfl, hw, hl⟩
        cases rs' with
        | cons r rs' => cases hds2
        | nil => exact ⟨ws, a', rfl, fun b hb => hm b (by simp [hb]), rfl, hw, by simpa using hl⟩
  · rintro Sx ⟨ws, a', hds, hm, rfl, hw, hl⟩
    refine Ret.lst0 (T := []) hS FQ.refl ⟨ws, rfl, hw⟩ fun m => ?_
    exact scL_all.mpr fun d hd => by
      obtain ⟨z, _, rfl⟩ := List.mem_map.mp hd
      simp
end K49

namespace K49
open PySem L2 DD
variable {G : Deal} {S : Sto} {n h : Nat} {ks : List Str} {w : Str}
theorem d_word : z_is_word = B.z_is_word := rfl
theorem d_error : z_agreement_error = B.z_agreement_error := rfl
def six : List Str := ["ready", "z", "set", "abcdef", "ab", "zzzzzz"]
theorem six_all : six.all (fun w => isWord (.str w) && !decide (w ∈ AB) && fitD (.str w) && decide (w.cps.size ≤ 10)) = true := by decide +kernel
theorem six_at (hw : w ∈ six) : isWord (.str w) = true ∧ w ∉ AB ∧ strF w := by
  have := List.all_eq_true.mp six_all w hw
  simp only [Bool.and_eq_true, decide_eq_true_eq, Bool.not_eq_true', decide_eq_false_iff_not] at this
  exact ⟨this.1.1.1, this.1.1.2, this.1.2, this.2⟩
theorem word_ok (hw : w ∈ six) : Pu z_is_word [.str w] (.bl true) := by
  obtain ⟨h1, _, h3⟩ := six_at hw
  rw [d_word, ← h1]
  exact b_word lf_str fun x e => by
    cases e
    have := h3.2
    show w.cps.size ≤ 200000
    omega
theorem in_rol (b : Str) (xs : List Str) (S : Sto) : inD (.str b) (.rol (xs.map D.str)) S = some (.bl (decide (b ∈ xs)), S) := by
  have f : (xs.map D.str).all flatD = true := by
    rw [List.all_map, List.all_eq_true]
    intro x _
    rfl
  have g : ((xs.map D.str).any fun y => eqF y (.str b)) = decide (b ∈ xs) := by
    rw [List.any_map]
    induction xs with
    | nil => simp
    | cons x xs ih =>
      rw [List.any_cons, ih (by rw [List.all_map, List.all_eq_true]; intro x _; rfl)]
      simp only [Function.comp, eqF, List.mem_cons]
      by_cases q : x = b
      · subst q; simp
      · simp [q, Ne.symm q]
  unfold inD inB
  rw [show seqOf S (.rol (xs.map D.str)) = some (xs.map D.str) from rfl, Option.bind_some, if_pos ⟨rfl, f⟩, g]
  rfl
theorem any_not (ds : List D) (S : Sto) : anyD (.rol (ds.map fun _ => D.bl false)) S = some (.bl false, S) := by
  have e1 : mapO blOf (ds.map fun _ => D.bl false) = some (ds.map fun _ => false) := by
    induction ds with
    | nil => rfl
    | cons b bs ih => simp [mapO, blOf, ih]
  have e2 : (ds.map fun _ => false).any id = false := by
    rw [List.any_map, List.any_eq_false]
    simp
  simp [anyD, lstOf, e1, e2]
theorem any_end {m : Nat} (S : Sto) : anyD (.loc S.length) (S ++ [.lst (List.replicate m (.bl false))]) = some (.bl false, S ++ [.lst (List.replicate m (.bl false))]) := by
  have e1 : mapO blOf (List.replicate m (D.bl false)) = some (List.replicate m false) := by
    induction m with
    | zero => rfl
    | succ m ih => simp [List.replicate_succ, mapO, blOf, ih]
  have e2 : (List.replicate m false).any id = false := by
    rw [List.any_eq_false]
    intro x hx
    rw [List.eq_of_mem_replicate hx]
    simp
  simp [anyD, lstOf, e1, e2]
def C1 (S : Sto) (c : Ag) (ds : List D) (Sx : Sto) : Prop := ∃ (m : Nat) (c' : Ag), ds = c'.map bkD ∧ (∀ b ∈ c', b ∈ c) ∧ Sx = S ++ [.lst (List.replicate m (.bl false))] ∧ m + 12 * c'.length ≤ 48
def C2 (S : Sto) (rs : List Rw) (k : Nat) (ds : List D) (Sx : Sto) : Prop := ∃ (m : Nat) (rs' : List Rw), ds = rs'.map rwD ∧ (∀ r ∈ rs', r ∈ rs) ∧ Sx = S ++ [.lst (List.replicate m (.bl false))] ∧ m + rs'.length + 12 * k ≤ 48
theorem rep_one {m : Nat} {d : D} : List.replicate m d ++ [d] = List.replicate (m + 1) d := by rw [List.replicate_succ']
theorem bounds_ok {c : Ag} (hl : c.length ≤ 4) (hc : ∀ b ∈ c, b.ks.length ≤ 8 ∧ b.rs.length ≤ 12 ∧ ∀ r ∈ b.rs, r.sd.length ≤ 6) : Pu z__check_bounds [agD c] .non := Pu.of lf_non fun S => by
  have nat : sizeLine = 16777216 := by decide
  refine w_fn rfl ?_
  refine seq_cut (fun ρ S' => S = S' ∧ ρ = [some (agD c), none, none, none, none]) ?_ ?_
  · simp [agD, wipeE]
    rw [comp_m (fun _ => .bl false) _ [] (fun d hd => by
      obtain ⟨b, hb, rfl⟩ := List.mem_map.mp hd
      have : (b.ks.length : Int) ≤ 8 := by have := (hc b hb).1; omega
      simp [bkD, this]) (by simp; omega), wO_some]
    simp only [List.nil_append, any_not, wO_some]
    simp
  rintro ρ S' ⟨rfl, rfl⟩
  refine seq_cut (fun ρ S' => S = S' ∧ ρ = [some (agD c), none, none, none, none]) ?_ ?_
  · simp [agD, wipeE]
    rw [comp_m (fun _ => .bl false) _ [] (fun d hd => by
      obtain ⟨b, hb, rfl⟩ := List.mem_map.mp hd
      have : (b.rs.length : Int) ≤ 12 := by have := (hc b hb).2.1; omega
      simp [bkD, this]) (by simp; omega), wO_some]
    simp only [List.nil_append, any_not, wO_some]
    simp
  rintro ρ S' ⟨rfl, rfl⟩
  simp [agD, wipeE]
  refine compO_w (C1 S c) (fun _ _ _ => rfl) ?_ ?_ _ _ ⟨0, c, rfl, fun _ h => h, rfl, by omega⟩
  · rintro d ds Sx ⟨m, c', hds, hm, rfl, hw⟩
    cases c' with
    | nil => cases hds
    | cons b c' =>
      cases hds
      obtain ⟨b1, b2, b3⟩ := hc b (hm b (by simp))
      rw [List.length_cons] at hw
      simp [bkD, w_innerN, wipeE]
      refine compO_w (C2 S b.rs c'.length) (fun _ _ _ => rfl) ?_ ?_ _ _ ⟨m, b.rs, rfl, fun _ h => h, rfl, by omega⟩
      · rintro d ds2 Sx ⟨m, rs', hds2, hm2, rfl, hw⟩
        cases rs' with
        | nil => cases hds2
        | cons r rs' =>
          cases hds2
          have r3 := b3 r (hm2 r (by simp))
          rw [List.length_cons] at hw
          have x3 : ∀ r : Rw, atI [D.int r.st, .tup (r.tk.map DD.prD), .int r.on, .tup (r.sd.map DD.prD), .bl r.lt] 3 = some (.tup (r.sd.map DD.prD)) := fun _ => rfl
          have wl : (List.replicate m (D.bl false)).length < 1000 := by simp; omega
          have g6 : ¬ (6 < (r.sd.length : Int)) := by omega
          simp [rwD, w_lastN, x3, g6, app_end wl]
          exact ⟨m + 1, rs', rfl, fun r hr => hm2 r (by simp [hr]), by rw [rep_one], by omega⟩
      · rintro Sx ⟨m, rs', hds2, hm2, rfl, hw⟩
        cases rs' with
        | cons r rs' => cases hds2
        | nil => exact ⟨m, c', rfl, fun b hb => hm b (by simp [hb]), rfl, by simpa using hw⟩
  · rintro Sx ⟨m, c', hds, hm, rfl, hw⟩
    simp [any_end]
def mendA (a : Ag) (w : Str) : Ag := a.mapIdx fun i b => mendB a.length i w b
theorem mendA_len {a : Ag} : (mendA a w).length = a.length := List.length_mapIdx
theorem mendA_get {a : Ag} (i : Nat) : (mendA a w)[i]? = a[i]?.map (mendB a.length i w) := List.getElem?_mapIdx
theorem mendA_mem {a : Ag} {b : Bk} (hb : b ∈ mendA a w) : ∃ i b0, a[i]? = some b0 ∧ b = mendB a.length i w b0 := by
  obtain ⟨i, hi⟩ := List.mem_iff_getElem?.mp hb
  rw [mendA_get] at hi
  cases e : a[i]? with
  | none => rw [e] at hi; cases hi
  | some b0 => rw [e] at hi; cases hi; exact ⟨i, b0, e, rfl⟩
theorem ltP_len {n h : Nat} : (ltP n h w).length ≤ n := by unfold ltP; rw [List.length_map]; exact oth_len n h
theorem oth_lenS {n h : Nat} (hh : h < n) : (othL n h).length ≤ n - 1 := by
  unfold othL
  have e := List.length_filter_lt_length_iff_exists (p := fun o => decide (o ≠ h)) (l := List.range n) |>.mpr ⟨h, List.mem_range.mpr hh, by simp⟩
  rw [List.length_range] at e
  omega
theorem endRows_mem {m : Nat} {ls : List Pr} {r : Rw} : ∀ {p : Nat} {es : List Nat}, r ∈ endRows m ls p es → r.st ∈ es ∧ r.tk = ls ∧ (∃ i, i < es.length ∧ es[i]? = some r.st ∧ r.on = m + (p + i)) ∧ r.sd = [] ∧ r.lt = false
  | _, [], hr => by simp [endRows] at hr
  | p, e :: es, hr => by
    rw [endRows, List.mem_cons] at hr
    rcases hr with rfl | hr
    · exact ⟨by simp, rfl, ⟨0, by simp, rfl, rfl⟩, rfl, rfl⟩
    · obtain ⟨h1, h2, ⟨i, h3, h4, h5⟩, h6⟩ := endRows_mem hr
      exact ⟨by simp [h1], h2, ⟨i + 1, by simp; omega, by simpa using h4, by omega⟩, h6⟩
theorem ends_done : ∀ (k : Nat) (xs : List Str), (endsFrom k xs).length = (xs.filter (fun x => decide (x = ("done" : Str)))).length
  | _, [] => rfl
  | k, x :: xs => by
    have := ends_done (k + 1) xs
    unfold endsFrom
    by_cases q : x = "done" <;> simp [q, this]
/-- what is asked of a drawn agreement -/
def AgD (n : Nat) (a : Ag) : Prop := 2 ≤ n ∧ n ≤ 4 ∧ a.length = n ∧ ∀ h b, a[h]? = some b → BkW n h b
theorem mend_bounds {a : Ag} (ha : AgD n a) : ∀ b ∈ mendA a w, b.ks.length ≤ 8 ∧ b.rs.length ≤ 12 ∧ ∀ r ∈ b.rs, r.sd.length ≤ 6 := by
  intro b hb
  obtain ⟨i, b0, hi, rfl⟩ := mendA_mem hb
  obtain ⟨h1, h2, h3, h4, h5⟩ := ha.2.2.2 i b0 hi
  have e := ends_done 0 b0.ks
  have il : i < a.length := (List.getElem?_eq_some_iff.mp hi).1
  have n4 := ha.2.1
  have nl := ha.2.2.1
  have ll : (ltP a.length i w).length ≤ 3 := by unfold ltP; rw [List.length_map]; have := oth_lenS il; omega
  refine ⟨by simp only [mendB, List.length_append, List.length_map, List.length_replicate, endsL]; omega, by simp only [mendB, List.length_append, List.length_map, endRows_len, endsL]; omega, ?_⟩
  intro r hr
  simp only [mendB, List.mem_append, List.mem_map] at hr
  rcases hr with ⟨r0, hr0, rfl⟩ | hr
  · have := h5 r0 hr0
    unfold rw2
    split
    · simp only [List.length_append]; omega
    · omega
  · rw [(endRows_mem hr).2.2.2.1]; simp
end K49

namespace K49
open PySem L2 DD
variable {G : Deal} {S : Sto} {n h : Nat} {ks : List Str} {w : Str}
theorem AgD.words {a : Ag} (ha : AgD n a) : ∀ b ∈ a, b.rs.length ≤ 12 ∧ ∀ r ∈ b.rs, r.tk.length ≤ 4 ∧ r.sd.length ≤ 6 ∧ ∀ p ∈ r.tk ++ r.sd, p.2 ∈ AB := by
  intro b hb
  obtain ⟨i, hi⟩ := List.mem_iff_getElem?.mp hb
  obtain ⟨⟨_, _, _, _, _, hr⟩, h2, _, _, h5⟩ := ha.2.2.2 i b hi
  refine ⟨by omega, fun r q => ?_⟩
  obtain ⟨_, _, _, t1, t2, _, s1, s2⟩ := hr r q
  refine ⟨t2, s2, fun p hp => ?_⟩
  rcases List.mem_append.mp hp with q | q
  · exact (t1.2 p q).2.2
  · exact (s1.2 p q).2.2
theorem mend_range (a : Ag) : ((List.range a.length).map fun i => match a[i]? with | some b => bkD (mendB a.length i w b) | none => D.non) = (mendA a w).map bkD := by
  apply List.ext_getElem?
  intro i
  rw [List.getElem?_map, List.getElem?_map, mendA_get]
  by_cases hi : i < a.length
  · rw [List.getElem?_range hi, List.getElem?_eq_getElem hi]
    simp [hi]
  · rw [List.getElem?_eq_none (by simpa using hi), List.getElem?_eq_none (by omega)]
    rfl
theorem mended_ok {a : Ag} (ha : AgD n a) (hw : w ∈ six) : Dsp G z_mended [agD a, .str w] (fun d => d = agD (mendA a w)) := by
  have nat : sizeLine = 16777216 := by decide
  have n4 := ha.2.1
  have nl := ha.2.2.1
  refine Dsp.of fun S hS => ?_
  refine w_fn rfl ?_
  refine seq_cut (fun ρ S' => ρ = [some (agD a), some (.str w), none, none] ∧ G.ok S' ∧ FQ G.own S S') ?_ ?_
  · simp [(word_ok hw).w]
    refine (words_ok (by omega) ha.words).at0 hS ?_
    rintro d S2 ⟨ws, rfl, hws⟩ h2 f2
    have no : ¬ w ∈ ws := fun q => (six_at hw).2.1 (hws w q)
    simp only [in_rol, wO_some]
    simp [no]
    exact ⟨h2, f2⟩
  rintro ρ S2 ⟨rfl, h2, f2⟩
  refine seq_cut (fun ρ S' => S' = S2 ∧ ∃ y, ρ = [some (agD a), some (.str w), some (agD (mendA a w)), y]) ?_ ?_
  · have ln : ∀ S, lenD (agD a) S = some (.int a.length, S) := fun S => by simp [agD, lenD]
    simp [wipeE, ln, rng_small (n := a.length) (by omega)]
    rw [rngL_zero, comp_m (fun d => match d with | .int i => (match a[i.toNat]? with | some b => bkD (mendB a.length i.toNat w b) | none => D.non) | _ => .non) _ [] (fun d hd => by
      obtain ⟨i, hi, rfl⟩ := List.mem_map.mp hd
      have hi := List.mem_range.mp hi
      have e := List.getElem?_eq_getElem hi
      obtain ⟨⟨k1, k8, _, _, r12, hr⟩, b2, _, _, b5⟩ := ha.2.2.2 i _ e
      simp [e]
      rw [(mended_book (w := w) e (by omega) k8 r12 (fun r q => by have := b5 r q; omega)).w]) (by simp; omega), wO_some]
    have e := mend_range (w := w) a
    simp only [List.nil_append, List.map_map, Function.comp_def, Int.toNat_natCast]
    rw [e]
    simp [tr, agD]
  rintro ρ S' ⟨rfl, y, rfl⟩
  refine seq_cut (fun ρ S3 => S3 = S' ∧ ∃ y, ρ = [some (agD a), some (.str w), some (agD (mendA a w)), y]) ?_ ?_
  · simp [(bounds_ok (c := mendA a w) (by rw [mendA_len]; omega) (mend_bounds ha)).w]
  rintro ρ S3 ⟨rfl, y, rfl⟩
  simp
  exact Ret.val0 h2 f2 rfl (lf_ag _)
end K49

namespace K49
open PySem L2 DD
variable {G : Deal} {S : Sto} {n h : Nat} {ks : List Str} {w : Str}
/-- the store behind the two lists -/
def X0 (c : Nat) : Sto := [.lst [.str "done"], .lst (List.replicate c (.str "done"))]
theorem app_end2 {c : Nat} {acc : List D} {x : D} (h : acc.length < 1000) : appD (.loc (S.length + 2)) x (S ++ (X0 c ++ [.lst acc])) = some (.non, S ++ (X0 c ++ [.lst (acc ++ [x])])) := by
  have sz : sizeLine = 16777216 := by decide
  rw [app_at]
  simp [X0]
  omega
abbrev envB (n h : Nat) (w : Str) (b : Bk) (S : Sto) (y12 y13 y14 y15 y16 : Option D) : DD.Env :=
  [some (.int n), some (.int h), some (bkD b), some (.str w), some (.tup (b.ks.map D.str)), some (.tup (b.rs.map rwD)), some (.rol (natD (endsL b.ks))), some (.rol ((othL n h).map fun o => D.int (o : Nat))), some (.tup ((ltP n h w).map DD.prD)), some (.tup ((ltP n h w).map DD.prD)), some (.rol ((mendB n h w b).ks.map D.str)), some (.loc (S.length + 2)), y12, y13, y14, y15, y16]
def M1 (n h : Nat) (w : Str) (b : Bk) (S : Sto) (ds : List D) (ρ : DD.Env) (S' : Sto) : Prop := ∃ (done left : List Rw) (y12 : Option D), ds = left.map rwD ∧ b.rs = done ++ left ∧ ρ = envB n h w b S y12 none none none none ∧ S' = S ++ (X0 (endsL b.ks).length ++ [.lst ((done.map (rw2 (endsL b.ks) (ltP n h w))).map rwD)])
def M2 (n h : Nat) (w : Str) (b : Bk) (S : Sto) (ds : List D) (ρ : DD.Env) (S' : Sto) : Prop := ∃ (p : Nat) (left : List Nat) (acc : List D) (y12 y13 y14 : Option D), ds = numL p (natD left) ∧ acc ++ (endRows b.ks.length (ltP n h w) p left).map rwD = (mendB n h w b).rs.map rwD ∧ ρ = envB n h w b S y12 y13 y14 none none ∧ S' = S ++ (X0 (endsL b.ks).length ++ [.lst acc]) ∧ acc.length + left.length ≤ 100
def M3 (n h : Nat) (w : Str) (b : Bk) (S : Sto) (ρ : DD.Env) (S1 : Sto) : Prop := ∃ (y12 y13 y14 : Option D), ρ = envB n h w b S y12 y13 y14 none none ∧ S1 = S ++ (X0 (endsL b.ks).length ++ [.lst ((mendB n h w b).rs.map rwD)])
theorem mend_book (hn : n ≤ 4) {b : Bk} (hk : b.ks.length ≤ 8) (hr : b.rs.length ≤ 12) (hs : ∀ r ∈ b.rs, r.sd.length ≤ 6) : Pu z__law_mend_book [.int n, .int h, bkD b, .str w] (bkD (mendB n h w b)) := Pu.of (lf_bk _) fun S => by
  have nat : sizeLine = 16777216 := by decide
  have el : (endsL b.ks).length ≤ b.ks.length := ends_len 0 b.ks
  have nl : (natD (endsL b.ks)).length = (endsL b.ks).length := by simp [natD]
  have en : ∀ S, enumI (.rol (natD (endsL b.ks))) S = some (numL 0 (natD (endsL b.ks)), (fun _ => true), S) := fun _ => rfl
  have ol := oth_len n h
  have ll : (ltP n h w).length ≤ 4 := by unfold ltP; rw [List.length_map]; omega
  refine w_fn rfl ?_
  refine seq_cut (fun ρ S' => S = S' ∧ ρ = [some (.int n), some (.int h), some (bkD b), some (.str w), some (.tup (b.ks.map D.str)), some (.tup (b.rs.map rwD)), none, none, none, none, none, none, none, none, none, none, none]) ?_ ?_
  · simp [bkD]
  rintro ρ S' ⟨rfl, rfl⟩
  refine seq_cut (fun ρ S' => S = S' ∧ ρ = [some (.int n), some (.int h), some (bkD b), some (.str w), some (.tup (b.ks.map D.str)), some (.tup (b.rs.map rwD)), some (.rol (natD (endsL b.ks))), none, none, none, none, none, none, none, none, none, none]) ?_ ?_
  · simp [wipeE]
    rw [comp_ends hk _ (by simp) (by simp) (by decide), wO_some]
    simp
  rintro ρ S' ⟨rfl, rfl⟩
  refine seq_cut (fun ρ S' => S = S' ∧ ρ = [some (.int n), some (.int h), some (bkD b), some (.str w), some (.tup (b.ks.map D.str)), some (.tup (b.rs.map rwD)), some (.rol (natD (endsL b.ks))), some (.rol ((othL n h).map fun o => D.int (o : Nat))), none, none, none, none, none, none, none, none, none]) ?_ ?_
  · simp [wipeE, rng_small (n := n) (by omega)]
    rw [comp_oth (h := h) (f := fun o => D.int o) hn _ (by simp) rfl (by decide) (fun o => by simp), wO_some]
    simp
  rintro ρ S' ⟨rfl, rfl⟩
  refine seq_cut (fun ρ S' => S = S' ∧ ρ = [some (.int n), some (.int h), some (bkD b), some (.str w), some (.tup (b.ks.map D.str)), some (.tup (b.rs.map rwD)), some (.rol (natD (endsL b.ks))), some (.rol ((othL n h).map fun o => D.int (o : Nat))), some (.tup ((ltP n h w).map DD.prD)), some (.tup ((ltP n h w).map DD.prD)), none, none, none, none, none, none, none]) ?_ ?_
  · have each : ∀ ρ : DD.Env, 16 < ρ.length → ρ[3]? = some (some (.str w)) → ∀ S, compL (gN 16) (fun _ => true) mYes (mTup (mCons (mV 16) (mCons (mV 3) mNil))) ρ ((othL n h).map fun o => D.int (o : Nat)) [] S = some ((ltP n h w).map DD.prD, S) := fun ρ hl h3 S => by
      rw [comp_m (fun d => .tup [d, .str w]) _ [] (fun d hd => by
        have q16 : ∀ y : Option D, (ρ.set 16 y)[16]? = some y := fun y => List.getElem?_set_self hl
        have q3 : ∀ y : Option D, (ρ.set 16 y)[3]? = some (some (.str w)) := fun y => by rw [List.getElem?_set_ne (by decide)]; exact h3
        simp [q16, q3]) (by simp; omega)]
      rw [List.nil_append, List.map_map, ltP, List.map_map]
      rfl
    simp [wipeE]
    rw [each _ (by simp) rfl, wO_some]
    simp [tr]
    rw [each _ (by simp) rfl, wO_some]
    simp [tr]
  rintro ρ S' ⟨rfl, rfl⟩
  refine seq_cut (M1 n h w b S (b.rs.map rwD)) ?_ ?_
  · simp [wipeE]
    rw [comp_kinds hk _ (by simp), wO_some]
    have fl : ∀ m : Nat, (List.replicate m [D.str "done"]).flatten = List.replicate m (.str "done") := fun m => by
      induction m with
      | zero => rfl
      | succ m ih => rw [List.replicate_succ, List.flatten_cons, ih]; rfl
    have k0 : (0 : Int) ≤ (endsL b.ks).length ∧ ((endsL b.ks).length : Int) ≤ 1000 := ⟨by omega, by omega⟩
    have ml : mulB (.loc S.length) (.int (endsL b.ks).length) (S ++ [.lst [.str "done"]]) = some (.loc (S.length + 1), S ++ X0 (endsL b.ks).length) := by
      simp [mulB, fl, X0]
      omega
    have kl : ((b.ks.map yesD).map D.str).length + (List.replicate (endsL b.ks).length (D.str "done")).length ≤ sizeLine := by simp; omega
    have al : addX true (.rol ((b.ks.map yesD).map D.str)) (.loc (S.length + 1)) (S ++ X0 (endsL b.ks).length) = some (.rol ((mendB n h w b).ks.map D.str), S ++ X0 (endsL b.ks).length) := by
      have e : lstOf (S ++ X0 (endsL b.ks).length) (.loc (S.length + 1)) = some (List.replicate (endsL b.ks).length (.str "done")) := by rw [lst_at]; rfl
      have e2 : lstOf (S ++ X0 (endsL b.ks).length) (.rol ((b.ks.map yesD).map D.str)) = some ((b.ks.map yesD).map D.str) := rfl
      unfold addX
      simp only [e, e2, Option.bind_some, if_pos kl]
      simp [mendB, mkL]
    simp
    simp only [nl, ml, wO_some]
    rw [List.map_map] at al
    rw [al, wO_some]
    refine ⟨[], b.rs, none, rfl, rfl, ?_, ?_⟩
    · simp [X0]
    · simp [X0]
  rintro ρ S1 ⟨d0, l0, y12, e0, eb, rfl, rfl⟩
  have ed : d0 = [] := by
    have := congrArg List.length e0
    have := congrArg List.length eb
    simp at *
    exact List.eq_nil_of_length_eq_zero (by omega)
  subst ed
  have l12 : (b.rs.map (rw2 (endsL b.ks) (ltP n h w))).length ≤ 12 := by rw [List.length_map]; exact hr
  refine seq_cut (M2 n h w b S (numL 0 (natD (endsL b.ks)))) ?_ ?_
  · simp
    refine for_w (M1 n h w b S) (fun _ _ => False) (fun _ _ => False) (fun _ _ _ _ => rfl) ?_ ?_ (fun _ _ h => h.elim) (fun _ _ h => h.elim) _ _ _ ⟨[], b.rs, y12, rfl, rfl, rfl, rfl⟩
    · rintro d ds ρ S1 ⟨done, left, y12, e1, e2, rfl, rfl⟩
      cases left with
      | nil => cases e1
      | cons r left =>
        cases e1
        have rm : r ∈ b.rs := by rw [e2]; simp
        have rs6 := hs r rm
        have dl : done.length ≤ 12 := by have := congrArg List.length e2; simp at this; omega
        have acl : ((done.map (rw2 (endsL b.ks) (ltP n h w))).map rwD).length < 1000 := by simp; omega
        have sz : r.sd.length + (ltP n h w).length ≤ sizeLine := by omega
        have ix0 : atI [D.int r.st, .tup (r.tk.map DD.prD), .int r.on, .tup (r.sd.map DD.prD), .bl r.lt] 0 = some (.int r.st) := rfl
        have ix1 : atI [D.int r.st, .tup (r.tk.map DD.prD), .int r.on, .tup (r.sd.map DD.prD), .bl r.lt] 1 = some (.tup (r.tk.map DD.prD)) := rfl
        have ix2 : atI [D.int r.st, .tup (r.tk.map DD.prD), .int r.on, .tup (r.sd.map DD.prD), .bl r.lt] 2 = some (.int r.on) := rfl
        have ix3 : atI [D.int r.st, .tup (r.tk.map DD.prD), .int r.on, .tup (r.sd.map DD.prD), .bl r.lt] 3 = some (.tup (r.sd.map DD.prD)) := rfl
        refine wO_some.mpr ?_
        have lo : lstOf (S ++ (X0 (endsL b.ks).length ++ [Cell.lst ((done.map (rw2 (endsL b.ks) (ltP n h w))).map rwD)])) (.loc (S.length + 2)) = some ((done.map (rw2 (endsL b.ks) (ltP n h w))).map rwD) := by rw [lst_at]; rfl
        have fin : ∀ x : D, x = rwD (rw2 (endsL b.ks) (ltP n h w) r) → M1 n h w b S (left.map rwD) (envB n h w b S (some (rwD r)) none none none none) (S ++ (X0 (endsL b.ks).length ++ [.lst ((done.map (rw2 (endsL b.ks) (ltP n h w))).map rwD ++ [x])])) := fun x e => by
          subst e
          exact ⟨done ++ [r], left, _, rfl, by rw [e2]; simp, rfl, by simp⟩
        generalize (done.map (rw2 (endsL b.ks) (ltP n h w))).map rwD = A at *
        simp [envB, lo, rwD, ix2, nat_mem]
        by_cases q : r.on ∈ endsL b.ks
        · simp [q, ix0, ix1, ix2, ix3, sz, lo, app_end2 acl]
          have z := fin _ rfl
          simp [envB, rwD, rw2, q] at z
          exact z
        · simp [q, lo, app_end2 acl]
          have z := fin _ rfl
          simp [envB, rwD, rw2, q] at z
          exact z
    · rintro ρ S1 ⟨done, left, y12, e1, e2, rfl, rfl⟩
      cases left with
      | cons r left => cases e1
      | nil =>
        rw [List.append_nil] at e2
        subst e2
        exact ⟨0, endsL b.ks, _, _, _, _, rfl, by simp [mendB], rfl, rfl, by simp; omega⟩
  rintro ρ S1 ⟨p, left, acc, y12, y13, y14, e1, e2, rfl, rfl, hl⟩
  refine seq_cut (M3 n h w b S) ?_ ?_
  · simp [envB, en]
    rw [e1]
    refine for_w (M2 n h w b S) (fun _ _ => False) (fun _ _ => False) (fun _ _ _ _ => rfl) ?_ ?_ (fun _ _ h => h.elim) (fun _ _ h => h.elim) _ _ _ ⟨p, left, acc, y12, y13, y14, rfl, e2, rfl, rfl, hl⟩
    · rintro d ds ρ S1 ⟨p, left, acc, y12, y13, y14, e1, e2, rfl, rfl, hl⟩
      cases left with
      | nil => cases e1
      | cons e left =>
        rw [natD, List.map_cons, numL_cons] at e1
        cases e1
        rw [List.length_cons] at hl
        have acl : acc.length < 1000 := by omega
        have lo : lstOf (S ++ (X0 (endsL b.ks).length ++ [Cell.lst acc])) (.loc (S.length + 2)) = some acc := by rw [lst_at]; rfl
        simp [envB, lo, app_end2 acl]
        refine ⟨p + 1, left, _, _, _, _, rfl, ?_, rfl, rfl, by simp; omega⟩
        rw [← e2]
        simp [endRows, rwD]
    · rintro ρ S1 ⟨p, left, acc, y12, y13, y14, e1, e2, rfl, rfl, hl⟩
      cases left with
      | cons r left => rw [natD, List.map_cons, numL_cons] at e1; cases e1
      | nil =>
        rw [endRows, List.map_nil, List.append_nil] at e2
        rw [e2]
        exact ⟨_, _, _, rfl, rfl⟩
  rintro ρ S1 ⟨y12, y13, y14, rfl, rfl⟩
  have lo : lstOf (S ++ (X0 (endsL b.ks).length ++ [Cell.lst ((mendB n h w b).rs.map rwD)])) (.loc (S.length + 2)) = some ((mendB n h w b).rs.map rwD) := by rw [lst_at]; rfl
  have tp : tupleD (.loc (S.length + 2)) (S ++ (X0 (endsL b.ks).length ++ [Cell.lst ((mendB n h w b).rs.map rwD)])) = some (.tup ((mendB n h w b).rs.map rwD), S ++ (X0 (endsL b.ks).length ++ [Cell.lst ((mendB n h w b).rs.map rwD)])) := by rw [tup_at]; rfl
  simp [envB, tr, tp]
  rfl
theorem mend_num (a : Ag) : ((numL 0 (a.map bkD)).map fun d => match d with | .tup [.int i, _] => (match a[i.toNat]? with | some b => bkD (mendB a.length i.toNat w b) | none => D.non) | _ => .non) = (mendA a w).map bkD := by
  apply List.ext_getElem?
  intro i
  rw [List.getElem?_map, List.getElem?_map, mendA_get]
  by_cases hi : i < a.length
  · have hl : i < (numL 0 (a.map bkD)).length := by rw [numL_len, List.length_map]; exact hi
    have e := List.getElem?_eq_getElem hl
    obtain ⟨b, _, e2⟩ := numL_get _ _ _ _ e
    rw [e, e2, List.getElem?_eq_getElem hi]
    simp [hi]
  · rw [List.getElem?_eq_none (by rw [numL_len, List.length_map]; omega), List.getElem?_eq_none (by omega)]
    rfl
theorem mend_all {a : Ag} (ha : AgD n a) : Pu z__law_mend [agD a, .str w] (agD (mendA a w)) := Pu.of0 (lf_ag _) fun S => by
  have nat : sizeLine = 16777216 := by decide
  have n4 := ha.2.1
  have nl := ha.2.2.1
  refine w_fn rfl ?_
  have ln : ∀ S, lenD (agD a) S = some (.int a.length, S) := fun S => by simp [agD, lenD]
  have en : enumI (agD a) S = some (numL 0 (a.map bkD), (fun _ => true), S) := rfl
  simp [wipeE, en, ln]
  rw [comp_m (fun d => match d with | .tup [.int i, _] => (match a[i.toNat]? with | some b => bkD (mendB a.length i.toNat w b) | none => D.non) | _ => .non) _ [] (fun d hd => by
    obtain ⟨k, hk'⟩ := List.mem_iff_getElem?.mp hd
    obtain ⟨e, he, rfl⟩ := numL_get _ _ _ _ hk'
    rw [List.getElem?_map] at he
    cases eb : a[k]? with
    | none => rw [eb] at he; cases he
    | some b =>
      rw [eb] at he
      cases he
      obtain ⟨⟨k1, k8, _, _, r12, hr⟩, b2, _, _, b5⟩ := ha.2.2.2 k _ eb
      simp [ln, eb]
      rw [(mend_book (w := w) (n := a.length) (h := k) (by omega) k8 r12 (fun r q => by have := b5 r q; omega)).w]) (by rw [numL_len]; simp; omega), wO_some]
  rw [List.nil_append, mend_num]
  simp [tr, agD]
end K49

namespace K49
open PySem L2 DD
variable {n h : Nat} {ks : List Str} {w : Str}
def WW (w : Str) : List Str := AB ++ [w]
theorem ww_ok (hw : w ∈ six) : WOk (WW w) := by
  intro x hx
  rcases List.mem_append.mp hx with q | q
  · have ab : AB.all (fun x => isWord (.str x)) = true := by decide +kernel
    exact List.all_eq_true.mp ab x q
  · rw [List.mem_singleton.mp q]; exact (six_at hw).1
theorem lead_yes {a b : Str} (h : leadK a b = true) : leadK (yesD a) (yesD b) = true ∧ yesD a = a := by
  have n1 : ¬ (("open" : Str) = ("done" : Str)) := by decide +kernel
  have n2 : ¬ (("yes" : Str) = ("done" : Str)) := by decide +kernel
  have n3 : ¬ (("off" : Str) = ("done" : Str)) := by decide +kernel
  have l1 : leadK "open" "open" = true ∧ leadK "open" "yes" = true ∧ leadK "open" "off" = true ∧ leadK "yes" "yes" = true ∧ leadK "yes" "off" = true := by decide +kernel
  unfold leadK at h
  by_cases h1 : a = "open"
  · rw [if_pos h1] at h
    have := of_decide_eq_true h
    simp only [List.mem_cons, List.not_mem_nil, or_false] at this
    subst h1
    rcases this with rfl | rfl | rfl <;> simp [yesD, n1, n2, n3, l1]
  · rw [if_neg h1] at h
    by_cases h2 : a = "yes"
    · rw [if_pos h2] at h
      have := of_decide_eq_true h
      simp only [List.mem_cons, List.not_mem_nil, or_false] at this
      subst h2
      rcases this with rfl | rfl | rfl <;> simp [yesD, n1, n2, n3, l1]
    · rw [if_neg h2] at h; cases h
theorem ends_mem : ∀ (k : Nat) (xs : List Str) (e : Nat), e ∈ endsFrom k xs → ∃ i, e = k + i ∧ i < xs.length ∧ xs.getD i "" = "done"
  | _, [], e, h => by simp [endsFrom] at h
  | k, x :: xs, e, h => by
    unfold endsFrom at h
    have next : e ∈ endsFrom (k + 1) xs → ∃ i, e = k + i ∧ i < (x :: xs).length ∧ (x :: xs).getD i "" = "done" := fun q => by
      obtain ⟨i, h1, h2, h3⟩ := ends_mem (k + 1) xs e q
      exact ⟨i + 1, by omega, by simp; omega, by simpa using h3⟩
    split at h
    · rename_i q
      rcases List.mem_cons.mp h with z | z
      · exact ⟨0, by omega, by simp, by simpa using q⟩
      · exact next z
    · exact next h
theorem getD_low {e : List Str} {i : Nat} (hi : i < ks.length) : (ks.map yesD ++ e).getD i "" = yesD (ks.getD i "") := by
  rw [List.getD_eq_getElem?_getD, List.getElem?_append_left (by rw [List.length_map]; exact hi), List.getElem?_map, List.getD_eq_getElem?_getD, List.getElem?_eq_getElem hi]
  rfl
theorem getD_high {c i : Nat} (hi : i < c) : (ks.map yesD ++ List.replicate c ("done" : Str)).getD (ks.length + i) "" = "done" := by
  rw [List.getD_eq_getElem?_getD, List.getElem?_append_right (by rw [List.length_map]; omega), List.length_map, Nat.add_sub_cancel_left, List.getElem?_replicate, if_pos hi]
  rfl
theorem ltP_ok : PairsOk n h (WW w) (ltP n h w) := by
  refine ⟨?_, fun p hp => ?_⟩
  · unfold ltP
    rw [List.nodup_iff_pairwise_ne, List.pairwise_map]
    have : (othL n h).Nodup := List.nodup_range.sublist List.filter_sublist
    exact this.imp fun {a b} q z => q (by simpa using z)
  · obtain ⟨o, ho, rfl⟩ := List.mem_map.mp hp
    obtain ⟨h1, h2⟩ := List.mem_filter.mp ho
    exact ⟨List.mem_range.mp h1, by simpa using h2, by simp [WW]⟩
theorem ltP_up : (ltP n h w).Pairwise fun a b => ltQ a b = true := by
  unfold ltP
  rw [List.pairwise_map]
  have : (othL n h).Pairwise (· < ·) := List.pairwise_lt_range.sublist List.filter_sublist
  exact this.imp fun {a b} q => by
    rw [ltQ_eq, ltS_ne (by simp only; omega)]
    exact decide_eq_true (by simp only; omega)
theorem pairs_up {W W' : List Str} {ps : List Pr} (h1 : PairsOk n h W ps) (hw : ∀ x ∈ W, x ∈ W') : PairsOk n h W' ps := ⟨h1.1, fun p hp => ⟨(h1.2 p hp).1, (h1.2 p hp).2.1, hw _ (h1.2 p hp).2.2⟩⟩
theorem mend_ok (hw : w ∈ six) (hh : h < n) (hn : n ≤ 4) {b : Bk} (hb : BkW n h b) : BkOk n h (WW w) (mendB n h w b) := by
  obtain ⟨⟨k1, k8, kf, k0, r12, hr⟩, r4, k5, kd, s2⟩ := hb
  have ed := ends_done 0 b.ks
  have ll : (ltP n h w).length ≤ 3 := by unfold ltP; rw [List.length_map]; have := oth_lenS hh; omega
  have abw : ∀ x ∈ AB, x ∈ WW w := fun x q => List.mem_append.mpr (.inl q)
  have n1 : ¬ (("open" : Str) = ("done" : Str)) := by decide +kernel
  have n2 : ¬ (("yes" : Str) = ("done" : Str)) := by decide +kernel
  have yf : ("yes" : Str) ∈ four := by decide +kernel
  have df : ("done" : Str) ∈ four := by decide +kernel
  have yd : leadK "yes" "done" = true := by decide +kernel
  refine ⟨by simp only [mendB, List.length_append, List.length_map]; omega, by simp only [mendB, List.length_append, List.length_map, List.length_replicate, endsL]; omega, ?_, ?_, by simp only [mendB, List.length_append, List.length_map, endRows_len, endsL]; omega, ?_⟩
  · intro k hk
    rcases List.mem_append.mp hk with q | q
    · obtain ⟨x, hx, rfl⟩ := List.mem_map.mp q
      unfold yesD
      split
      · exact yf
      · exact kf x hx
    · rw [List.eq_of_mem_replicate q]; exact df
  · have e := getD_low (ks := b.ks) (e := List.replicate (endsL b.ks).length ("done" : Str)) (i := 0) (by omega)
    show (b.ks.map yesD ++ List.replicate (endsL b.ks).length ("done" : Str)).getD 0 "" = "open" ∨ _
    rw [e]
    rcases k0 with q | q <;> rw [q]
    · exact .inl (by simp [yesD, n1])
    · exact .inr (by show (b.ks.map yesD ++ List.replicate (endsL b.ks).length ("done" : Str)).getD 0 "" = "yes"; rw [e, q]; simp [yesD, n2])
  · intro r hr'
    rcases List.mem_append.mp hr' with q | q
    · obtain ⟨r0, hr0, rfl⟩ := List.mem_map.mp q
      obtain ⟨a1, a2, a3, a4, a5, a6, a7, a8⟩ := hr r0 hr0
      have base : RwOk n h (WW w) (mendB n h w b).ks r0 := by
        refine ⟨a1, by simp only [mendB, List.length_append, List.length_map]; omega, ?_, pairs_up a4 abw, a5, a6, pairs_up a7 abw, a8⟩
        show leadK ((b.ks.map yesD ++ List.replicate (endsL b.ks).length ("done" : Str)).getD r0.st "") ((b.ks.map yesD ++ List.replicate (endsL b.ks).length ("done" : Str)).getD r0.on "") = true
        rw [getD_low (by omega), getD_low a2]
        exact (lead_yes a3).1
      unfold rw2
      split
      · obtain ⟨b1, b2, b3, b4, b5, b6, b7, b8⟩ := base
        refine ⟨b1, b2, b3, b4, b5, b6, ⟨?_, fun p hp => ?_⟩, ?_⟩
        · refine List.nodup_append.mpr ⟨a7.1, (ltP_ok (w := w)).1, fun p hp q hq e => ?_⟩
          subst e
          obtain ⟨o, _, rfl⟩ := List.mem_map.mp hq
          exact (six_at hw).2.1 (a7.2 _ hp).2.2
        · rcases List.mem_append.mp hp with z | z
          · exact b7.2 p z
          · exact ltP_ok.2 p z
        · have := s2 r0 hr0
          simp only [List.length_append]
          omega
      · exact base
    · obtain ⟨h1, h2, ⟨i, h3, h4, h5⟩, h6, h7⟩ := endRows_mem q
      obtain ⟨j, j1, j2, j3⟩ := ends_mem 0 b.ks r.st h1
      rw [Nat.zero_add] at j1 h5
      refine ⟨by omega, by simp only [mendB, List.length_append, List.length_map, List.length_replicate]; omega, ?_, by rw [h2]; exact ltP_ok, by rw [h2]; omega, by rw [h2]; exact ltP_up, by rw [h6]; exact ⟨List.nodup_nil, by simp⟩, by rw [h6]; simp⟩
      show leadK ((b.ks.map yesD ++ List.replicate (endsL b.ks).length ("done" : Str)).getD r.st "") ((b.ks.map yesD ++ List.replicate (endsL b.ks).length ("done" : Str)).getD r.on "") = true
      rw [h5, j1, getD_low (by omega), getD_high h3, j3]
      simp only [yesD, if_true]
      exact yd
theorem mend_fault {a : Ag} (ha : AgD n a) (hw : w ∈ six) : faultD (agD (mendA a w)) = .non := by
  obtain ⟨n2, n4, nl, hb⟩ := ha
  refine v_ag (W := WW w) (ww_ok hw) (by rw [mendA_len]; omega) (by rw [mendA_len]; omega) fun j b hj => ?_
  rw [mendA_get] at hj
  cases e : a[j]? with
  | none => rw [e] at hj; cases hj
  | some b0 =>
    rw [e] at hj
    cases hj
    have := hb j b0 e
    rw [← nl] at this
    rw [mendA_len]
    exact mend_ok hw ((List.getElem?_eq_some_iff.mp e).1) (by omega) this
end K49

namespace K49
open PySem L2 DD
variable {G : Deal} {n : Nat} {w : Str}
theorem sf_ww (hw : w ∈ six) : SF (WW w) := by
  intro x hx
  rcases List.mem_append.mp hx with q | q
  · simp only [AB, List.mem_cons, List.not_mem_nil, or_false] at q
    rcases q with q | q <;> rw [q]
    · exact WA_fit (by simp [WA])
    · exact WA_fit (by simp [WA])
  · rw [List.mem_singleton.mp q]; exact (six_at hw).2.2
theorem fit_deal {a : Ag} (ha : AgD n a) : Fit (agD a) := by
  obtain ⟨n2, n4, nl, hb⟩ := ha
  exact (fw_agW (n := n) (by omega) n4 (fun x hx => sf_ww (w := "z") (by simp [six]) x (List.mem_append.mpr (.inl hx))) fun j b hj => (hb j b hj).1).fit (by omega) (by omega)
theorem fit_mend {a : Ag} (ha : AgD n a) (hw : w ∈ six) : Fit (agD (mendA a w)) := by
  have ha' := ha
  obtain ⟨n2, n4, nl, hb⟩ := ha
  refine (fw_agW (n := n) (by rw [mendA_len]; omega) n4 (sf_ww hw) fun j b hj => ?_).fit (by omega) (by omega)
  rw [mendA_get] at hj
  cases e : a[j]? with
  | none => rw [e] at hj; cases hj
  | some b0 =>
    rw [e] at hj
    cases hj
    have := hb j b0 e
    rw [nl]
    exact mend_ok hw (by have := (List.getElem?_eq_some_iff.mp e).1; omega) (by omega) this
def DealP (G : Deal) (n : Nat) (ds acc : List D) (S : Sto) : Prop := ∃ bs : List Bk, acc = bs.map bkD ∧ G.ok S ∧ ds = (List.range' bs.length (n - bs.length)).map (fun i => D.int (i : Nat)) ∧ bs.length ≤ n ∧ ∀ h b, bs[h]? = some b → BkW n h b
def sixD : List D := six.map D.str
def WordV (d : D) : Prop := ∃ w ∈ six, d = .str w
theorem pick_word (hd : Draws G z__law_take) : Dsp G z__law_pick [.loc G.dk, .rol [.str "ready", .str "z", .str "set", .str "abcdef", .str "ab", .str "zzzzzz"]] WordV :=
  pick_all hd WordV (by simp) (by simp) (fun y hy => by
    have : y ∈ six.map D.str := hy
    obtain ⟨w, hw, rfl⟩ := List.mem_map.mp this
    exact ⟨w, hw, rfl⟩) fun y ⟨w, _, e⟩ => by rw [e]; exact lf_str
theorem law_true (ns : List Int) (hl : ns.length ≤ 63) : ∃ S, m_law [.rol (ns.map DD.D.int)] [] = some (.bl true, S) := by
  have nat : sizeLine = 16777216 := by decide
  have r10 : rngOk 10 = true := by decide
  have main : wO (m_law [.rol (ns.map DD.D.int)] []) fun p => p.1 = .bl true := by
    refine w_fn rfl ?_
    refine seq_cut (fun ρ S => ∃ dk l, ρ = [some (.rol (ns.map DD.D.int)), some (.loc dk), none, none, none, none, none, none, none, none] ∧ (dealB dk l).ok S) ?_ ?_
    · simp
      rw [d_bag]
      refine (bagB (by omega) (by omega) ns hl).imp ?_
      rintro ⟨d, S⟩ ⟨dk, l, e, h⟩
      simp only at e
      subst e
      exact ⟨dk, rfl, l, h⟩
    rintro ρ S ⟨dk, l, rfl, h0⟩
    generalize hG : dealB dk l = G at h0
    have hd : Draws G z__law_take := by subst hG; exact fun many hm => takeB hm
    have ek : G.dk = dk := by subst hG; rfl
    rw [← ek]
    clear hG ek
    refine seq_cut (fun ρ S => True) ?_ ?_
    · simp [r10]
      refine for_w (fun ds ρ S => (∃ y2 y3 y4 y5 y6 y7 y8 y9, ρ = [some (.rol (ns.map DD.D.int)), some (.loc G.dk), y2, y3, y4, y5, y6, y7, y8, y9]) ∧ (∀ d ∈ ds, ∃ i, d = .int i) ∧ G.ok S) (fun _ _ => False) (fun _ _ => False) (fun _ _ _ _ => rfl) ?_ ?_ (fun _ _ h => h.elim) (fun _ _ h => h.elim) _ _ _ ?_
      · rintro d ds ρ S ⟨⟨y2, y3, y4, y5, y6, y7, y8, y9, rfl⟩, hi, hS⟩
        obtain ⟨i, rfl⟩ := hi d (by simp)
        have hi' : ∀ d ∈ ds, ∃ i, d = .int i := fun d q => hi d (by simp [q])
        refine wO_some.mpr ?_
        refine seq_cut (fun ρ S => (∃ n : Nat, 2 ≤ n ∧ n ≤ 4 ∧ ρ = [some (.rol (ns.map DD.D.int)), some (.loc G.dk), some (.int i), some (.int n), y4, y5, y6, y7, y8, y9]) ∧ G.ok S) ?_ ?_
        · simp
          refine (hd 3 (by omega)).at0 hS ?_
          rintro d S1 ⟨v, rfl, v0, v1⟩ h1 f1
          have := v1 (by omega)
          simp
          exact ⟨⟨(2 + v).toNat, by omega, by omega, by omega⟩, h1⟩
        rintro ρ S1 ⟨⟨n, n2, n4, rfl⟩, h1⟩
        refine seq_cut (fun ρ S => (∃ a y9, AgD n a ∧ ρ = [some (.rol (ns.map DD.D.int)), some (.loc G.dk), some (.int i), some (.int n), some (agD a), y5, y6, y7, y8, y9]) ∧ G.ok S) ?_ ?_
        · simp [wipeE, rng_small (n := n) (by omega)]
          refine comp_w (DealP G n) (fun _ _ _ _ => rfl) ?_ ?_ _ _ _ ⟨[], rfl, h1, by rw [rngL_zero, List.range_eq_range']; rfl, by simp, by simp⟩
          · rintro d ds acc Sx ⟨bs, rfl, h2, hd', hl, hb⟩
            have hlt : bs.length < n := by
              rcases Nat.lt_or_ge bs.length n with q | q
              · exact q
              · rw [show n - bs.length = 0 by omega] at hd'; cases hd'
            rw [show n - bs.length = (n - (bs.length + 1)) + 1 by omega, List.range'_succ, List.map_cons] at hd'
            cases hd'
            simp
            refine (wide_book hd n4).at0 h2 ?_
            rintro d S3 ⟨b, rfl, hb1⟩ h3 f3
            refine ⟨by omega, ?_⟩
            refine ⟨bs ++ [b], by simp, h3, by simp, by simp; omega, fun h c q => ?_⟩
            rw [List.getElem?_append] at q
            split at q
            · exact hb h c q
            · have : h = bs.length := by
                have := get_lt q
                simp at this
                omega
              subst this
              simp at q
              subst q
              exact hb1
          · rintro acc Sx ⟨bs, rfl, h2, hd', hl, hb⟩
            have : bs.length = n := by
              have := congrArg List.length hd'
              simp at this
              omega
            simp [tr]
            exact ⟨⟨bs, ⟨n2, n4, this, hb⟩, rfl⟩, h2⟩
        rintro ρ S2 ⟨⟨a, y9, ha, rfl⟩, h2⟩
        refine seq_cut (fun ρ S => (∃ w ∈ six, ρ = [some (.rol (ns.map DD.D.int)), some (.loc G.dk), some (.int i), some (.int n), some (agD a), some (.str w), y6, y7, y8, y9]) ∧ G.ok S) ?_ ?_
        · simp
          refine (pick_word hd).at0 h2 ?_
          rintro d S3 ⟨w, hw, rfl⟩ h3 f3
          simp
          exact ⟨hw, h3⟩
        rintro ρ S3 ⟨⟨w, hw, rfl⟩, h3⟩
        have fa := fit_deal ha
        have fm := fit_mend ha hw
        refine seq_cut (fun ρ S => ρ = [some (.rol (ns.map DD.D.int)), some (.loc G.dk), some (.int i), some (.int n), some (agD a), some (.str w), some (.str (rp (agD a))), some (agD (mendA a w)), y8, y9] ∧ G.ok S) ?_ ?_
        · simp [(mend_all (w := w) ha).w, rp_ok fa]
          exact h3
        rintro ρ S4 ⟨rfl, h4⟩
        refine seq_cut (fun ρ S => ρ = [some (.rol (ns.map DD.D.int)), some (.loc G.dk), some (.int i), some (.int n), some (agD a), some (.str w), some (.str (rp (agD a))), some (agD (mendA a w)), some (agD (mendA a w)), y9] ∧ G.ok S) ?_ ?_
        · simp
          by_cases q : i.fmod 3 = 1
          · refine .inr ⟨q, ?_⟩
            refine (mended_ok ha hw).at0 h4 ?_
            rintro d S5 rfl h5 f5
            simp
            exact h5
          · refine .inl ⟨q, ?_⟩
            refine (mended_ok ha hw).at0 h4 ?_
            rintro d S5 rfl h5 f5
            simp
            exact h5
        rintro ρ S5 ⟨rfl, h5⟩
        refine seq_cut (fun ρ S => ρ = [some (.rol (ns.map DD.D.int)), some (.loc G.dk), some (.int i), some (.int n), some (agD a), some (.str w), some (.str (rp (agD a))), some (agD (mendA a w)), some (agD (mendA a w)), y9] ∧ G.ok S) ?_ ?_
        · simp [rp_ok fm]
          refine (mended_ok ha hw).at0 h5 ?_
          rintro d S6 rfl h6 f6
          simp [rp_ok fm, rp_ok fa]
          exact h6
        rintro ρ S6 ⟨rfl, h6⟩
        have er : Pu z_agreement_error [agD (mendA a w)] .non := by
          have := b_error fm
          rw [mend_fault ha hw] at this
          rw [d_error]
          exact this
        have nn : ∀ S, notND .non .non S = some (.bl false, S) := fun S => by rw [notN_D _ lf_non]; rfl
        simp [er.w, nn]
        exact ⟨hi', h6⟩
      · rintro ρ S ⟨_, hi, hS⟩
        trivial
      · exact ⟨⟨_, _, _, _, _, _, _, _, rfl⟩, fun d q => by obtain ⟨i, e, _⟩ := rngL_int _ _ q; exact ⟨i, e⟩, h0⟩
    rintro ρ S _
    simp
  obtain ⟨⟨d, S⟩, h1, h2⟩ := main
  simp only at h2
  subst h2
  exact ⟨S, h1⟩
end K49

namespace K49
open PySem PySem.Spec PyProof.Rows L2 DD
def fn : List He.FnD := [⟨("is_tuple", none), "is_tuple", "is_tuple", defArgs s_is_tuple, defBody s_is_tuple, defScope s_is_tuple⟩, ⟨("_are_kinds", none), "_are_kinds", "_are_kinds", defArgs s__are_kinds, defBody s__are_kinds, defScope s__are_kinds⟩, ⟨("is_ascending", none), "is_ascending", "is_ascending", defArgs s_is_ascending, defBody s_is_ascending, defScope s_is_ascending⟩, ⟨("is_an_integer", none), "is_an_integer", "is_an_integer", defArgs s_is_an_integer, defBody s_is_an_integer, defScope s_is_an_integer⟩, ⟨("is_place", none), "is_place", "is_place", defArgs s_is_place, defBody s_is_place, defScope s_is_place⟩, ⟨("_leads", none), "_leads", "_leads", defArgs s__leads, defBody s__leads, defScope s__leads⟩, ⟨("is_word", none), "is_word", "is_word", defArgs s_is_word, defBody s_is_word, defScope s_is_word⟩, ⟨("_is_pair", none), "_is_pair", "_is_pair", defArgs s__is_pair, defBody s__is_pair, defScope s__is_pair⟩, ⟨("_are_pairs", none), "_are_pairs", "_are_pairs", defArgs s__are_pairs, defBody s__are_pairs, defScope s__are_pairs⟩, ⟨("_is_row", none), "_is_row", "_is_row", defArgs s__is_row, defBody s__is_row, defScope s__is_row⟩, ⟨("_book_error", none), "_book_error", "_book_error", defArgs s__book_error, defBody s__book_error, defScope s__book_error⟩, ⟨("agreement_error", none), "agreement_error", "agreement_error", defArgs s_agreement_error, defBody s_agreement_error, defScope s_agreement_error⟩, ⟨("_words", none), "_words", "_words", defArgs s__words, defBody s__words, defScope s__words⟩, ⟨("_with_letters", none), "_with_letters", "_with_letters", defArgs s__with_letters, defBody s__with_letters, defScope s__with_letters⟩, ⟨("_mended_book", none), "_mended_book", "_mended_book", defArgs s__mended_book, defBody s__mended_book, defScope s__mended_book⟩, ⟨("_check_bounds", none), "_check_bounds", "_check_bounds", defArgs s__check_bounds, defBody s__check_bounds, defScope s__check_bounds⟩, ⟨("mended", none), "mended", "mended", defArgs s_mended, defBody s_mended, defScope s_mended⟩, ⟨("_law_bag", none), "_law_bag", "_law_bag", defArgs s__law_bag, defBody s__law_bag, defScope s__law_bag⟩, ⟨("_law_take", none), "_law_take", "_law_take", defArgs s__law_take, defBody s__law_take, defScope s__law_take⟩, ⟨("_law_pick", none), "_law_pick", "_law_pick", defArgs s__law_pick, defBody s__law_pick, defScope s__law_pick⟩, ⟨("_law_mixed", none), "_law_mixed", "_law_mixed", defArgs s__law_mixed, defBody s__law_mixed, defScope s__law_mixed⟩, ⟨("_law_pairs", none), "_law_pairs", "_law_pairs", defArgs s__law_pairs, defBody s__law_pairs, defScope s__law_pairs⟩, ⟨("_law_row_drawn", none), "_law_row_drawn", "_law_row_drawn", defArgs s__law_row_drawn, defBody s__law_row_drawn, defScope s__law_row_drawn⟩, ⟨("_law_book_drawn", none), "_law_book_drawn", "_law_book_drawn", defArgs s__law_book_drawn, defBody s__law_book_drawn, defScope s__law_book_drawn⟩, ⟨("_law_mend_book", none), "_law_mend_book", "_law_mend_book", defArgs s__law_mend_book, defBody s__law_mend_book, defScope s__law_mend_book⟩, ⟨("_law_mend", none), "_law_mend", "_law_mend", defArgs s__law_mend, defBody s__law_mend, defScope s__law_mend⟩, ⟨("_law_wide_book", none), "_law_wide_book", "_law_wide_book", defArgs s__law_wide_book, defBody s__law_wide_book, defScope s__law_wide_book⟩, ⟨("law", none), "law", "law", defArgs s_law, defBody s_law, defScope s_law⟩]
def fa : List He.Fa := [.glo "is_tuple", .keep "is_tuple", .glo "_are_kinds", .keep "_are_kinds", .glo "is_ascending", .keep "is_ascending", .glo "is_an_integer", .keep "is_an_integer", .glo "is_place", .keep "is_place", .glo "_leads", .keep "_leads", .glo "is_word", .keep "is_word", .glo "_is_pair", .keep "_is_pair", .glo "_are_pairs", .keep "_are_pairs", .glo "_is_row", .keep "_is_row", .glo "_book_error", .keep "_book_error", .glo "agreement_error", .keep "agreement_error", .glo "_words", .keep "_words", .glo "_with_letters", .keep "_with_letters", .glo "_mended_book", .keep "_mended_book", .glo "_check_bounds", .keep "_check_bounds", .glo "mended", .keep "mended", .glo "_law_bag", .keep "_law_bag", .glo "_law_take", .keep "_law_take", .glo "_law_pick", .keep "_law_pick", .glo "_law_mixed", .keep "_law_mixed", .glo "_law_pairs", .keep "_law_pairs", .glo "_law_row_drawn", .keep "_law_row_drawn", .glo "_law_book_drawn", .keep "_law_book_drawn", .glo "_law_mend_book", .keep "_law_mend_book", .glo "_law_mend", .keep "_law_mend", .glo "_law_wide_book", .keep "_law_wide_book", .glo "law", .keep "law", .free "abs", .free "all", .free "any", .free "bool", .free "enumerate", .free "int", .free "isinstance", .free "len", .free "list", .free "range", .free "repr", .free "set", .free "sorted", .free "str", .free "tuple", .free "zip"]
def co : List CoD := [("FIRST_KINDS", .tup [.str "open", .str "yes"]), ("MAX_HOUSES", .int 4), ("MAX_ROWS", .int 12), ("MAX_SENDS", .int 6), ("MAX_SIGNS", .int 6), ("MAX_STATES", .int 8), ("MAX_TAKES", .int 4)]
def ta : List TaD := [("ONTO_KINDS", tab_ONTO_KINDS)]
abbrev R : PySem.W.OpenRow := PySem.W.OpenLaw.row PySem.Challenge.rw_leftstanding_k49_whole_mended_book_by_bo
abbrev hk : PySem.W.Hook := hookX 4 fa fn co ta
def ob (s : PySem.W.SharedT) : AlX := obsXG 4 fa fn co ta (HandSHeadRun.getT s)
theorem ob_eq (s : PySem.W.SharedT) : ob s = hk.obs s.abs := obsXG_eq (HandSHeadRun.getT_eq s)
def lo : List PySem.Str := (["MAX_HOUSES", "MAX_STATES", "MAX_ROWS", "MAX_TAKES", "MAX_SENDS", "MAX_SIGNS", "__name__", "ONTO_KINDS", "FIRST_KINDS", "agreement_error", "is_an_integer", "is_place", "is_tuple", "is_word", "is_ascending"] : List PySem.Str) ++ (["_book_error", "_are_kinds", "_is_row", "_leads", "_are_pairs", "_is_pair", "LeftError", "Unfit", "TooMany", "mended", "_words", "_mended_book", "_with_letters", "_check_bounds", "_law_bag"] : List PySem.Str) ++ (["_law_take", "_law_pick", "_law_mixed", "_law_pairs", "_law_row_drawn", "_law_book_drawn", "_law_mend_book", "_law_mend", "_law_wide_book"] : List PySem.Str)
set_option maxHeartbeats 0 in
theorem run (w : World) : HandSHeadRun.RunEq R (PySem.W.view R.prog [42]) hk ob 20000 lo w :=
  PySem.W.byRow2 "special-get-raises" (P := fun w => HandSHeadRun.RunEq R (PySem.W.view R.prog [42]) hk ob 20000 lo w) (fun w os => by kernel_rfl) (fun w os => by kernel_rfl) w
theorem facts {w : World} {K : PySem.W.Frag} {h : Heap} {mg : Str → Option Value} {f : Addr} (X : K.In h) (G : h.Ns mainGlobals mg) (hfa : mg ("law" : Str) = some (.ref f)) (c : SaysX fa fn co ta w K) :
    ∃ fd : FuncData, (∀ (s : Shared) (v : Value), BindsTo s fd ⟨[v], []⟩ [("script", v)]) ∧ ∀ base : Heap, K.In base → base.Ns mainGlobals mg → FnG (PySem.Challenge.rw_leftstanding_k49_whole_mended_book_by_bo).prog w K mg base 8 f fd ["script"] m_law :=
  all_mk X G hfa ⟨c.free X G 56, c.free X G 57, c.free X G 58, c.free X G 59, c.free X G 60, c.free X G 61, c.free X G 62, c.free X G 63, c.free X G 64, c.free X G 65, c.free X G 66, c.free X G 67, c.free X G 68, c.free X G 69, c.free X G 70, c.free X G 71⟩ ⟨c.sys, c.con X G 0, c.con X G 1, c.con X G 2, c.con X G 3, c.con X G 4, c.con X G 5, c.con X G 6, c.tab X G 0⟩ (c.at_ 0 0) (c.at_ 1 2) (c.at_ 2 4) (c.at_ 3 6) (c.at_ 4 8) (c.at_ 5 10) (c.at_ 6 12) (c.at_ 7 14) (c.at_ 8 16) (c.at_ 9 18) (c.at_ 10 20) (c.at_ 11 22) (c.at_ 12 24) (c.at_ 13 26) (c.at_ 14 28) (c.at_ 15 30) (c.at_ 16 32) (c.at_ 17 34) (c.at_ 18 36) (c.at_ 19 38) (c.at_ 20 40) (c.at_ 21 42) (c.at_ 22 44) (c.at_ 23 46) (c.at_ 24 48) (c.at_ 25 50) (c.at_ 26 52) (c.at_ 27 54)
end K49
open PySem PySem.W PySem.Calls PyProof.Rows in
set_option maxRecDepth 100000 in
set_option maxHeartbeats 0 in
theorem PySem.Challenge.cw_leftstanding_k49_whole_mended_book_by_bo_holds : PySem.Challenge.rw_leftstanding_k49_whole_mended_book_by_bo.Holds := by
  w_on; o_law
  refine HandSHeadRun.head_any (r := OpenLaw.row PySem.Challenge.rw_leftstanding_k49_whole_mended_book_by_bo) (q := view (OpenLaw.row PySem.Challenge.rw_leftstanding_k49_whole_mended_book_by_bo).prog [42]) (H := K49.hk) (ob := K49.ob) (M := 20000) (loose := K49.lo) (d := HandSHeadRun.topDef (OpenLaw.row PySem.Challenge.rw_leftstanding_k49_whole_mended_book_by_bo).prog 42) (kwd := []) K49.ob_eq
    (by kernel_rfl) (fun s => by kernel_rfl) K49.run (by kernel_rfl) (by kernel_rfl) (by kernel_rfl) (by rfl) (by first | assumption | decide +kernel) (by decide +kernel) ⟨rfl, rfl, rfl, rfl, rfl, by decide +kernel⟩ ?hw ?hc
  case hw => w_witness2
  case hc =>
    refine DD.law_endE (l := PySem.Challenge.rw_leftstanding_k49_whole_mended_book_by_bo) (n := 63) (k := 8) (x := "script") (g := K49.m_law) rfl (by decide) (by kernel_rfl) ⟨rfl, by decide, by decide⟩ ?F (fun ns hl => K49.law_true ns hl)
    intro w mg fa h Y G hmg0
    obtain ⟨K, KX, c⟩ := Y
    have hmg : mg ("law" : PySem.Str) = some (.ref fa) := by
      have e : (HandSHeadRun.topDef (OpenLaw.row PySem.Challenge.rw_leftstanding_k49_whole_mended_book_by_bo).prog 42).name = ("law" : PySem.Str) := by kernel_rfl
      rw [← e]
      exact hmg0
    obtain ⟨fd, hb, hF⟩ := K49.facts (w := w) KX G hmg c
    exact ⟨K, KX, fd, hb, hF⟩
