import PyProof.Rows.All
import Open.SpecLaws
import KE.OsHead
import KE.OsGo
import KE.KNestM
import Wide.All
import OpenK.AllK
import Wide.FinOn
import PyProof.EqAt
import PyProof.EqKinds
import PyProof.TupleCall
import KE.BitLaws
import KE.KSortTupG
import KE.KDictSum
import PyProof.Rows.TupDisplay
import PyProof.Rows.SetFrom
import PyProof.SetRoads
import PyProof.P3In
import PySem.Challenge.RW_priceboard_s01_answers
set_option Elab.async false
set_option linter.all false
set_option maxRecDepth 100000
set_option maxHeartbeats 4000000
namespace Pt
open PySem PySem.W PyProof.Rows
abbrev ro : OpenSpec := PySem.Challenge.rw_priceboard_s01_answers
def bt (o : Nat → Obj) : Nat → Nat → Nat → BT
 | 0, _, _ => .nil
 | f + 1, a, b => match Nat.blt b 11 with
  | true => .node (o b) (bt o f (2 * a) (a + b)) (bt o f (2 * a) (2 * a + b))
  | false => .nil
def tr (p : Program) (w : World) (m : Nat) (ann : Option Value) : Nat → SharedT → Thread → Option SharedT
 | 0, _, _ => none
 | n + 1, s, t => match through t with
  | true => some s
  | false => match stepOk m ann t with
   | false => none
   | true => match stepT (denote treeTable) p w s t with
    | some (s', t') => tr p w m ann n s' t'
    | none => none
theorem tr_of {p : Program} {w : World} {m : Nat} {ann : Option Value} : ∀ {n : Nat} {s s' : SharedT} {t : Thread}, tr p w m ann n s t = some s' → topRun treeTable p w m ann n s.abs t = some s'.abs
 | 0, _, _, _, h => by cases h
 | n + 1, s, s', t, h => by
  revert h
  unfold tr topRun
  cases through t
  ·cases stepOk m ann t
   ·exact nofun
   cases q : stepT (denote treeTable) p w s t with
   | none => exact nofun
   | some r =>
    rw [stepT_spec (s' := r.1) (t' := r.2) q]
    exact fun h => tr_of h
  ·intro h
   cases h
   rfl
noncomputable def T0 (P : Params) (os : OsState) : SharedT := ⟨bt (fun i => (boot_heap P).objs.toList.getD i default) 4 1 0, 11, (boot_heap P).life, #[], boot_drawn, boot_toks, os⟩
theorem hb (P : Params) (os : OsState) : (T0 P os).abs = ⟨boot_heap P, #[], boot_drawn, boot_toks, os⟩ := by
 kernel_rfl
noncomputable def R (p : Program) (N : Nat) (w : World) (os : OsState) : Option SharedT := tr p w 11 (some (.ref 6)) N (T0 w.params os) (topStub p)
def Lk (p : Program) (N : Nat) {B : Type} (f : World → Shared → B) (g : World → B) : Prop := ∀ w os, (R p N w os).map (fun s => f w s.abs) = some (g w)
theorem Lk.at {p : Program} {N : Nat} {B : Type} {f : World → Shared → B} {g : World → B} (h : Lk p N f g) {w : World} {os : OsState} {s : SharedT} (e : R p N w os = some s) : f w s.abs = g w := by
 have := h w os
 rw [e] at this
 exact Option.some.inj this
noncomputable abbrev ck (p : Program) (w : World) (s : Shared) : Bool := staticsOk (importedModules p.main.body) (boot_heap w.params) s.heap && namesBound p s.heap && gensDone s && laidKept (boot_heap w.params) s.heap
abbrev Sn (p q : Program) (l : List Str) (X : Shared → Bool) (s : Shared) := openSeen q l (importedModules p.main.body) X true s
abbrev k3 (q : Program) (l : List Str) (s : Shared) : Bool := s.heap.keysOk (looseW q l) ((recsOf q).map (·.name)) ((litsOf q).map (·.1)) ((clssOf q (looseW q l)).map (·.name))
abbrev k4 (p q : Program) (X : Shared → Bool) (s : Shared) : Bool := s.heap.accountedOkI (importedModules p.main.body) && s.heap.isNs mainGlobals && s.heap.isNs builtinsNs && tablesOk q s.heap && X s && s.gens.size == 0
theorem an {a b c d e f g : Bool} (h : a = true) (k : (b && c && d && e && f && g) = true) : (a && b && c && d && e && f && g) = true := by
 subst h
 simpa using k
theorem left_tree {p q : Program} {l : List Str} {X : Shared → Bool} {A : Type} {Yf : Shared → A} {Ya : World → A} {N : Nat} (qo : opening p = plainProg p.main.scope.names) (qf : ∀ s, fenceModules? p s = some s) (le : Nat.ble 600 N = true)
  (h1 : Lk p N (fun w s => (ck p w s, (Sn p q l X s).1)) fun _ => (true, expectedOf q))
  (h2 : Lk p N (fun _ s => (Sn p q l X s).2.1) fun _ => bltViewBooted)
  (h3 : Lk p N (fun _ s => k3 q l s) fun _ => true) (h8 : Lk p N (fun _ s => k4 p q X s) fun _ => true)
  (h4 : Lk p N (fun _ s => ((Sn p q l X s).2.2.2.1, (Sn p q l X s).2.2.2.2.1)) fun _ => (true, pinGoodD (drecsOf q)))
  (h5 : Lk p N (fun _ s => (Sn p q l X s).2.2.2.2.2.1) fun _ => plainGoodE q (looseW q l))
  (h6 : Lk p N (fun _ s => (Sn p q l X s).2.2.2.2.2.2) fun _ => (plainGoodD q l, wideGood q, clsGoodW q l))
  (h7 : Lk p N (fun _ s => Yf s) Ya) : LeftO p q l X Yf Ya N := by
 intro w
 obtain ⟨⟨h, gs, d, k, os⟩, e, e'⟩ := Option.map_eq_some_iff.mp (boot_open (N := N) qo le qf w)
 obtain ⟨rfl, rfl, rfl, rfl⟩ : h = boot_heap w.params ∧ gs = Array.mk [] ∧ d = boot_drawn ∧ k = boot_toks := by simpa using e'
 obtain ⟨s, es, -⟩ := Option.map_eq_some_iff.mp (h2 w os)
 have r := tr_of es
 rw [hb] at r
 obtain ⟨l1, g1⟩ := Prod.mk.inj (h1.at es)
 obtain ⟨g4, g5⟩ := Prod.mk.inj (h4.at es)
 have z1 : ((boot_heap w.params).isNs mainGlobals && (#[] : Array GenState).size == 0) = true := by kernel_rfl
 have z2 : (boot_heap w.params).objs.size = 11 := by kernel_rfl
 have z3 : (boot_heap w.params).nsMap mainGlobals "__annotations__" = some (.ref 6) := by kernel_rfl
 have t : topFrom treeTable p w N ⟨boot_heap w.params, #[], boot_drawn, boot_toks, os⟩ = some s.abs := by
  unfold topFrom
  dsimp only
  rw [z1, z2, z3, r]
  show (match ck p w s.abs with | true => _ | false => _) = _
  rw [l1]
 unfold openEnds
 rw [e]
 refine (congrArg (Option.map _) t).trans (congrArg some ?_)
 exact (Prod.ext (Prod.ext g1 (Prod.ext (h2.at es) (Prod.ext (an (h3.at es) (h8.at es)) (Prod.ext g4 (Prod.ext g5 (Prod.ext (h5.at es) (h6.at es))))))) (h7.at es))
def er {α β : Type} : Nat → List α → (List α → β) → β
 | _, [], k => k []
 | 0, _ :: t, k => k t
 | n + 1, a :: t, k => er n t fun t => k (a :: t)
def qv : Program := er 43 ro.prog.main.body fun b => er 17 b fun b => er 13 b fun b => er 11 b fun b => er 0 b fun b => { ro.prog with main := { ro.prog.main with body := b } }
abbrev L : List Str := [Str.ofString "CALLS"]
def X (s : Shared) : Bool := xlAt qv [] s && recOk [] s
theorem q1 : Lk ro.prog 7166 (fun w s => (ck ro.prog w s, (Sn ro.prog qv L X s).1)) fun _ => (true, expectedOf qv) := by
 intro w os
 kernel_rfl
theorem q2 : Lk ro.prog 7166 (fun _ s => (Sn ro.prog qv L X s).2.1) fun _ => bltViewBooted := by
 intro w os
 kernel_rfl
theorem q3 : Lk ro.prog 7166 (fun _ s => k3 qv L s) fun _ => true := by
 intro w os
 kernel_rfl
theorem q8 : Lk ro.prog 7166 (fun _ s => k4 ro.prog qv X s) fun _ => true := by
 intro w os
 kernel_rfl
theorem q4 : Lk ro.prog 7166 (fun _ s => ((Sn ro.prog qv L X s).2.2.2.1, (Sn ro.prog qv L X s).2.2.2.2.1)) fun _ => (true, pinGoodD (drecsOf qv)) := by
 intro w os
 kernel_rfl
theorem q5 : Lk ro.prog 7166 (fun _ s => (Sn ro.prog qv L X s).2.2.2.2.2.1) fun _ => plainGoodE qv (looseW qv L) := by
 intro w os
 kernel_rfl
theorem q6 : Lk ro.prog 7166 (fun _ s => (Sn ro.prog qv L X s).2.2.2.2.2.2) fun _ => (plainGoodD qv L, wideGood qv, clsGoodW qv L) := by
 intro w os
 kernel_rfl
local macro_rules | `(tactic| o_headS ($f $k $a $e)) => `(tactic| (assumption; exact kmHook $k $a $e [133]))
noncomputable def H : Hook := by
 refine (fun (_ : ro.Holds → ro.Holds) => ?_) (fun _ => ?_)
 rotate_left
 k_headS
theorem q7 : Lk ro.prog 7166 (fun _ s => Hook.obs H s) (Hook.val H) := by
 intro w os
 kernel_rfl
theorem hl : LeftO ro.prog qv L X (Hook.obs H) (Hook.val H) 7166 :=
 left_tree (by kernel_rfl) (fun s => by kernel_rfl) rfl q1 q2 q3 q8 q4 q5 q6 q7
end Pt
set_option Elab.async false
set_option linter.all false
set_option maxRecDepth 100000
namespace L2
open PySem PySem.Spec PyProof.Rows
abbrev Key := Sum Int Str
def keyIs : Key → Value → Bool
 | .inl k, v => Value.isInt k v
 | .inr x, v => Value.isStrOf x v
def keyH (w : World) : Key → Int
 | .inl k => hashInt k
 | .inr x => hashStr w x
theorem keyIs_shape : ∀ {k : Key} {v : Value}, keyIs k v = true → (∃ i t, k = Sum.inl i ∧ v = Value.int i t) ∨ (∃ x t, k = Sum.inr x ∧ v = Value.str x t)
 | .inl i, v, h => by
  obtain ⟨t, e⟩ := Value.isInt_shape (k := i) (v := v) h
  exact .inl ⟨i, t, rfl, e⟩
 | .inr x, v, h => by
  obtain ⟨t, e⟩ := Value.isStrOf_shape (x := x) (v := v) h
  exact .inr ⟨x, t, rfl, e⟩
theorem keyIs_int (i : Int) (t : Tok) : keyIs (.inl i) (.int i t) = true := by simp [keyIs, Value.isInt]
theorem keyIs_str (x : Str) (t : Tok) : keyIs (.inr x) (.str x t) = true := by simp [keyIs, Value.isStrOf]
theorem key_ll (a b : Int) : decide ((Sum.inl a : Key) = Sum.inl b) = (a == b) := by
 by_cases e : a = b
 ·subst e; simp
 ·have h : ¬ (Sum.inl a : Key) = Sum.inl b := fun q => e (Sum.inl.inj q)
  rw [decide_eq_false h]
  exact (beq_eq_false_iff_ne.mpr e).symm
theorem key_rr (a b : Str) : decide ((Sum.inr a : Key) = Sum.inr b) = decide (a = b) := by
 by_cases e : a = b
 ·subst e; simp
 ·have h : ¬ (Sum.inr a : Key) = Sum.inr b := fun q => e (Sum.inr.inj q)
  rw [decide_eq_false h, decide_eq_false e]
theorem key_lr (a : Int) (b : Str) : decide ((Sum.inl a : Key) = Sum.inr b) = false := decide_eq_false (fun q => nomatch q)
theorem key_rl (a : Str) (b : Int) : decide ((Sum.inr a : Key) = Sum.inl b) = false := decide_eq_false (fun q => nomatch q)
def mixKind (prog : Program) (w : World) : PySem.KeyKind prog w Key where
 is := keyIs
 hash := keyH w
 inj := fun v a b ha hb => by
  rcases keyIs_shape ha with ⟨i, t, rfl, rfl⟩ | ⟨x, t, rfl, rfl⟩
  ·rcases keyIs_shape hb with ⟨j, u, rfl, e⟩ | ⟨y, u, rfl, e⟩
   ·injection e with e1 _; rw [e1]
   ·exact nomatch e
  ·rcases keyIs_shape hb with ⟨j, u, rfl, e⟩ | ⟨y, u, rfl, e⟩
   ·exact nomatch e
   ·injection e with e1 _; rw [e1]
 byValue := fun k v h => by
  rcases keyIs_shape h with ⟨i, t, rfl, rfl⟩ | ⟨x, t, rfl, rfl⟩ <;> rfl
 pyHash := fun hv h => by
  rcases keyIs_shape hv with ⟨i, t, rfl, rfl⟩ | ⟨x, t, rfl, rfl⟩
  ·exact wpAny_pyHash_int h
  ·exact wpAny_pyHash_str h
 eqBool := fun hu hv h => by
  rcases keyIs_shape hu with ⟨i, t, rfl, rfl⟩ | ⟨x, t, rfl, rfl⟩
  ·rcases keyIs_shape hv with ⟨j, u, rfl, rfl⟩ | ⟨y, u, rfl, rfl⟩
   ·rw [key_ll] at h; exact wpAny_eqBool_int h
   ·rw [key_lr] at h; exact SeqAt.EqAt.int_str i t y u _ _ _ _ h
  ·rcases keyIs_shape hv with ⟨j, u, rfl, rfl⟩ | ⟨y, u, rfl, rfl⟩
   ·rw [key_rl] at h; exact SeqAt.EqAt.str_int x t j u _ _ _ _ h
   ·rw [key_rr] at h; exact wpAny_eqBool_str h
 «strs» := fun k x t v h => by
  rcases keyIs_shape h with ⟨i, u, rfl, e⟩ | ⟨y, u, rfl, e⟩
  ·exact nomatch e
  ·injection e with e1 _
   subst e1
   cases v <;> rfl
theorem mixKind_int (prog : Program) (w : World) (i : Int) (t : Tok) : (mixKind prog w).is (.inl i) (.int i t) = true := keyIs_int i t
theorem mixKind_str (prog : Program) (w : World) (x : Str) (t : Tok) : (mixKind prog w).is (.inr x) (.str x t) = true := keyIs_str x t
end L2
namespace L2
open PySem PySem.Spec PyProof.Rows
inductive V where
 | non | bl (b : Bool) | int (i : Int) | str (x : Str) | byt (b : Array UInt8) | flt (b : UInt64) | ref (a : Addr) | ty (n : String)
 deriving DecidableEq
def RelV : V → Value → Prop
 | .non, u => u = Value.none
 | .bl b, u => u = Value.bool b
 | .int i, u => ∃ t, u = Value.int i t
 | .str x, u => ∃ t, u = Value.str x t
 | .byt b, u => ∃ t, u = Value.bytes b t
 | .flt b, u => ∃ t, u = Value.float b t
 | .ref a, u => u = Value.ref a
 | .ty n, u => u = Value.type n
abbrev Vals : List V → List Value → Prop := Paired RelV
theorem Vals.length {xs : List V} {us : List Value} (r : Vals xs us) : xs.length = us.length := Paired.length r
theorem Vals.get : ∀ {xs : List V} {us : List Value} {i : Nat} {x : V}, Vals xs us → xs[i]? = some x → ∃ u, us[i]? = some u ∧ RelV x u
 | _, _, _, _, .nil, e => by simp at e
 | _, _, 0, _, .cons r _, e => by simp at e; subst e; exact ⟨_, rfl, r⟩
 | _, _, i + 1, x, .cons _ t, e => by
  obtain ⟨u, h1, h2⟩ := Vals.get (i := i) (x := x) t (by simpa using e)
  exact ⟨u, by simpa using h1, h2⟩
theorem Vals.append : ∀ {xs ys : List V} {us ws : List Value}, Vals xs us → Vals ys ws → Vals (xs ++ ys) (us ++ ws)
 | _, _, _, _, .nil, s => s
 | _, _, _, _, .cons r t, s => .cons r (Vals.append t s)
theorem Vals.take : ∀ {xs : List V} {us : List Value} (n : Nat), Vals xs us → Vals (xs.take n) (us.take n)
 | _, _, 0, _ => .nil
 | _, _, _ + 1, .nil => .nil
 | _, _, n + 1, .cons r t => .cons r (Vals.take n t)
theorem Vals.drop : ∀ {xs : List V} {us : List Value} (n : Nat), Vals xs us → Vals (xs.drop n) (us.drop n)
 | _, _, 0, r => r
 | _, _, _ + 1, .nil => .nil
 | _, _, n + 1, .cons _ t => Vals.drop n t
def RelO : Option V → Option Value → Prop
 | some v, some u => RelV v u
 | none, none => True
 | _, _ => False
def KV {κ : Type} : List (κ × V) → List (κ × Value) → Prop := Paired fun (p : κ × V) (q : κ × Value) => p.1 = q.1 ∧ RelV p.2 q.2
def kV : Key → V
 | .inl i => .int i
 | .inr x => .str x
inductive HO where
 | lst (xs : List V)
 | tup (xs : List V)
 | dK (kvs : List (Key × V)) | dT (kvs : List (List Key × V))
 | set (S : Int → Bool) (n : Nat)
 | ins (C dx : Addr) (fs : List (Str × V))
 | own (x : Addr)
 | xd (fs : List (Str × V))
 | met (f x : Addr)
 | rng (lo hi : Int)
 | frz (o : Obj) (u : HO)
 | tbl (ps : Array Value)
 | ext (φ : Heap → Prop)
abbrev Hp := Addr → Option HO
def upd (H : Hp) (a : Addr) (o : HO) : Hp := fun b => if b = a then some o else H b
theorem uS {H : Hp} {a : Addr} {o : HO} : upd H a o a = some o := by unfold upd; rw [if_pos rfl]
theorem uN {H : Hp} {a b : Addr} {o : HO} (h : b ≠ a) : upd H a o b = H b := by unfold upd; rw [if_neg h]
theorem ne_of {H : Hp} {a b : Addr} {o u : HO} (h : H a = some o) (h' : H b = some u) (d : o ≠ u) : a ≠ b := by
 intro e; subst e; rw [h] at h'; exact d (Option.some.inj h')
theorem ne_of_none {H : Hp} {a b : Addr} {o : HO} (h : H a = some o) (h' : H b = none) : a ≠ b := by
 intro e; subst e; rw [h] at h'; cases h'
section
variable (P : Program) (w : World)
def ObjOk (H : Hp) (h : Heap) (a : Addr) : HO → Prop
 | .lst xs => xs.length ≤ sizeLine ∧ ∃ (its : List Value) (n : Nat), Vals xs its ∧ h.get? a = some { cls := .type "list", data := .seq its.toArray n }
 | .tup xs => xs.length ≤ sizeLine ∧ ∃ its : List Value, Vals xs its ∧ IsTup h a its.toArray
 | .dK kvs => kvs.length ≤ sizeLine ∧ (a == sysModules) = false ∧ ∃ vs, KV kvs vs ∧ h.DictOf (mixKind P w) a vs
 | .dT kvs => kvs.length ≤ sizeLine ∧ (a == sysModules) = false ∧ ∃ xs : List (List Key × Addr × Value),
   Paired (fun (p : List Key × V) (q : List Key × Addr × Value) => p.1 = q.1 ∧ H q.2.1 = some (.tup (p.1.map kV)) ∧ RelV p.2 q.2.2) kvs xs ∧
   ∃ o es ep, h.get? a = some o ∧ o.ExactDict ∧ o.data = .dict es ep ∧ es.toList = xs.map (entryOfKey (tupleKind (mixKind P w))) ∧ (xs.map (·.1)).Nodup
 | .set S n => h.SetOf (intKind P w) a S n
 | .ins C dx fs => H dx = some (.own a) ∧ fs.length ≤ 1000 ∧ dx ≠ a ∧ h.get? a = some (W.instObj C dx) ∧
   ∃ mA, h.Ns1 dx mA ∧ (∀ f, RelO (fs.lookup f) (mA f)) ∧ PySem.Within mA (fs.map (·.1))
 | .own _ => ∃ o, h.get? a = some o
 | .xd fs => ∃ mA, h.Ns1 a mA ∧ ∀ f, RelO (fs.lookup f) (mA f)
 | .rng lo hi => ∃ t u v, h.get? a = some { cls := .type "range", data := .fields #[.int lo t, .int hi u, .int 1 v] }
 | .frz o u => h.get? a = some o ∧ ObjOk H h a u
 | .tbl ps => h.get? a = some { cls := .none, data := .fields ps }
 | .met f x => h.get? a = some (W.methodObj (.ref f) (.ref x))
 | .ext φ => φ h ∧ (∃ o, h.get? a = some o) ∧ ∀ h1 h2 : Heap, φ h1 → (∀ o, h1.get? a = some o → h2.get? a = some o) → φ h2
def HOk (H : Hp) (h : Heap) : Prop := ∀ a o, H a = some o → ObjOk P w H h a o
end
section
variable {P : Program} {w : World} {H H' : Hp} {h h' : Heap} {a : Addr} {o : HO}
theorem ObjOk.lt (x : ObjOk P w H h a o) : a < h.objs.size := by
 cases o with
 | lst xs => obtain ⟨_, _, _, _, e⟩ := x; exact Heap.lt_size e
 | tup xs => obtain ⟨_, _, _, p⟩ := x; exact p.lt
 | dK kvs => obtain ⟨_, _, _, _, o, _, _, e, _⟩ := x; exact Heap.lt_size e
 | dT kvs => obtain ⟨_, _, _, _, o, _, _, e, _⟩ := x; exact Heap.lt_size e
 | set S n => obtain ⟨o, _, _, _, e, _⟩ := x; exact Heap.lt_size e
 | ins C dx fs => obtain ⟨_, _, _, e, _⟩ := x; exact Heap.lt_size e
 | own y => obtain ⟨_, e⟩ := x; exact Heap.lt_size e
 | xd fs => obtain ⟨_, ⟨_, _, _, e, _⟩, _⟩ := x; exact Heap.lt_size e
 | rng lo hi => obtain ⟨_, _, _, e⟩ := x; exact Heap.lt_size e
 | frz ob u => obtain ⟨e, _⟩ := x; exact Heap.lt_size e
 | tbl ps => exact Heap.lt_size (show h.get? a = some _ from x)
 | met f y => exact Heap.lt_size (show h.get? a = some _ from x)
 | ext φ => obtain ⟨_, ⟨_, e⟩, _⟩ := x; exact Heap.lt_size e
theorem Paired.mapP {α β : Type} {F G : α → β → Prop} : ∀ {l₁ : List α} {l₂ : List β}, Paired F l₁ l₂ → (∀ a b, F a b → G a b) → Paired G l₁ l₂
 | _, _, .nil, _ => .nil
 | _, _, .cons r t, f => .cons (f _ _ r) (Paired.mapP t f)
theorem ObjOk.stay (x : ObjOk P w H h a o) (k : ∀ b u, (b = a ∨ H b = some (.own a)) → h.get? b = some u → h'.get? b = some u)
  (ho : ∀ b, H b = some (.own a) → H' b = some (.own a)) (ht : ∀ b xs, H b = some (.tup xs) → H' b = some (.tup xs)) : ObjOk P w H' h' a o := by
 induction o with
 | lst xs => obtain ⟨z, its, n, r, e⟩ := x; exact ⟨z, its, n, r, k _ _ (.inl rfl) e⟩
 | tup xs => obtain ⟨z, its, r, ob, e, c⟩ := x; exact ⟨z, its, r, ob, k _ _ (.inl rfl) e, c⟩
 | dK kvs => obtain ⟨z, y, vs, r, ob, es, ep, e, c⟩ := x; exact ⟨z, y, vs, r, ob, es, ep, k _ _ (.inl rfl) e, c⟩
 | dT kvs =>
  obtain ⟨z, y, xs, r, ob, es, ep, e, c⟩ := x
  exact ⟨z, y, xs, Paired.mapP r fun p q z => ⟨z.1, ht _ _ z.2.1, z.2.2⟩, ob, es, ep, k _ _ (.inl rfl) e, c⟩
 | set S n => obtain ⟨ob, es, ep, t, e, c⟩ := x; exact ⟨ob, es, ep, t, k _ _ (.inl rfl) e, c⟩
 | ins C dx fs =>
  obtain ⟨d, z, ne, e, mA, ⟨od, es, ep, e2, c⟩, r⟩ := x
  exact ⟨ho _ d, z, ne, k _ _ (.inl rfl) e, mA, ⟨od, es, ep, k _ _ (.inr d) e2, c⟩, r⟩
 | own y => obtain ⟨ob, e⟩ := x; exact ⟨ob, k _ _ (.inl rfl) e⟩
 | xd fs => obtain ⟨mA, ⟨od, es, ep, e, c⟩, r⟩ := x; exact ⟨mA, ⟨od, es, ep, k _ _ (.inl rfl) e, c⟩, r⟩
 | rng lo hi => obtain ⟨t, u, v, e⟩ := x; exact ⟨t, u, v, k _ _ (.inl rfl) e⟩
 | frz ob u ih => obtain ⟨e, q⟩ := x; exact ⟨k _ _ (.inl rfl) e, ih q⟩
 | tbl ps =>
  have e : h.get? a = some { cls := .none, data := .fields ps } := x
  show h'.get? a = some { cls := .none, data := .fields ps }
  exact k a _ (.inl rfl) e
 | met f y =>
  have e : h.get? a = some (W.methodObj (.ref f) (.ref y)) := x
  show h'.get? a = some (W.methodObj (.ref f) (.ref y))
  exact k a _ (.inl rfl) e
 | ext φ => obtain ⟨p, ⟨o, e⟩, st⟩ := x; exact ⟨st _ _ p fun o q => k _ _ (.inl rfl) q, ⟨o, k _ _ (.inl rfl) e⟩, st⟩
theorem HOk.lt (x : HOk P w H h) (e : H a = some o) : a < h.objs.size := (x a o e).lt
theorem HOk.fresh (x : HOk P w H h) (e : h.objs.size ≤ a) : H a = none := by
 cases q : H a with
 | none => rfl
 | some u => exact absurd (Nat.lt_of_lt_of_le (x.lt q) e) (Nat.lt_irrefl _)
theorem HOk.kept (x : HOk P w H h) (k : ∀ b u, h.get? b = some u → h'.get? b = some u) : HOk P w H h' := fun a o e =>
 (x a o e).stay (fun b u _ q => k b u q) (fun _ q => q) fun _ _ q => q
theorem HOk.laid (x : HOk P w H h) (k : ∀ b u, h.get? b = some u → h'.get? b = some u) (hp : h.objs.size ≤ a) (new : ObjOk P w (upd H a o) h' a o) : HOk P w (upd H a o) h' := fun b u e => by
 have hn := x.fresh hp
 by_cases hb : b = a
 ·subst hb; rw [uS] at e; cases e; exact new
 ·rw [uN hb] at e
  exact (x b u e).stay (fun c v _ q => k c v q) (fun c q => by rw [uN (ne_of_none q hn)]; exact q) fun c xs q => by rw [uN (ne_of_none q hn)]; exact q
end
def Rd (H : Hp) (a : Addr) (u : HO) : Prop := H a = some u ∨ ∃ o, H a = some (.frz o u)
theorem Rd.ok {P : Program} {w : World} {H : Hp} {h : Heap} {a : Addr} {u : HO} (r : Rd H a u) (x : HOk P w H h) : ObjOk P w H h a u := by
 rcases r with r | ⟨o, r⟩
 ·exact x a u r
 ·obtain ⟨_, q⟩ := x a _ r
  exact q
def Mut : Option HO → Prop
 | some (.lst _) => True
 | some (.dK _) => True
 | some (.dT _) => True
 | some (.set _ _) => True
 | some (.ins _ _ _) => True
 | some (.ext _) => True
 | _ => False
section
variable {P : Program} {w : World} {H : Hp} {h h' : Heap} {x e : Addr} {o' : HO}
theorem HOk.write (ok : HOk P w H h) (mu : Mut (H x)) (he : e = x ∨ H e = some (.own x)) (k : ∀ b u, b ≠ e → h.get? b = some u → h'.get? b = some u) (heo : ∃ u, h'.get? e = some u)
  (new : ObjOk P w (upd H x o') h' x o') : HOk P w (upd H x o') h' := fun b u q => by
 have nown : ∀ c y, H c = some (.own y) → c ≠ x := fun c y r z => by subst z; rw [r] at mu; exact mu
 have ntup : ∀ c xs, H c = some (.tup xs) → c ≠ x := fun c xs r z => by subst z; rw [r] at mu; exact mu
 by_cases hb : b = x
 ·subst hb; rw [uS] at q; cases q; exact new
 ·rw [uN hb] at q
  by_cases hbe : b = e
  ·have q' : H b = some (.own x) := by
    rcases he with z | z
    ·exact absurd (hbe.trans z) hb
    ·rw [hbe]; exact z
   rw [q] at q'; cases q'
   obtain ⟨v, hv⟩ := heo
   exact ⟨v, by rw [hbe]; exact hv⟩
  ·refine (ok b u q).stay (fun c v hc r => k c v ?_ r) (fun c r => by rw [uN (nown c b r)]; exact r) fun c xs r => by rw [uN (ntup c xs r)]; exact r
   rcases hc with rfl | hc
   ·exact hbe
   ·rintro rfl
    rcases he with z | z
    ·exact nown c b hc z
    ·rw [hc] at z; cases z; exact hb rfl
end
structure Un (fs ex : List Addr) (H H' : Hp) (h h' : Heap) : Prop where
 keep : ∀ b o, h.get? b = some o → H b = none → b ∉ fs → b ∉ ex → h'.get? b = some o
 slot : ∀ b o, h.get? b = some o → H b = none → b ∈ fs → b ∉ ex → ∃ sl, h'.get? b = some { o with slots := sl }
 free : ∀ b o, h.get? b = some o → H b = none → b ∉ ex → H' b = none
 there : ∀ b o, h.get? b = some o → b ∉ ex → ∃ o', h'.get? b = some o'
 tups : ∀ b xs, H b = some (.tup xs) → H' b = some (.tup xs)
 frzs : ∀ b o u, H b = some (.frz o u) → H' b = some (.frz o u)
 tbls : ∀ b ps, H b = some (.tbl ps) → ∃ more, H' b = some (.tbl (ps ++ more))
section
variable {fs fs' ex ex' : List Addr} {H H1 H2 : Hp} {h h1 h2 h' : Heap} {a x e : Addr} {o : HO}
theorem Un.any (u : Un fs ex H H1 h h1) {b : Addr} {ob : Obj} (q : h.get? b = some ob) (n : H b = none) (hx : b ∉ ex) : ∃ sl, h1.get? b = some { ob with slots := sl } := by
 by_cases hb : b ∈ fs
 ·exact u.slot b ob q n hb hx
 ·exact ⟨ob.slots, u.keep b ob q n hb hx⟩
theorem Un.kept (k : ∀ b u, h.get? b = some u → h'.get? b = some u) : Un fs ex H H h h' :=
 ⟨fun b ob q _ _ _ => k b ob q, fun b ob q _ _ _ => ⟨ob.slots, k b ob q⟩, fun _ _ _ n _ => n, fun b ob q _ => ⟨ob, k b ob q⟩, fun _ _ q => q, fun _ _ _ q => q, fun _ ps q => ⟨#[], by rw [q]; simp⟩⟩
theorem Un.refl : Un fs ex H H h h := Un.kept fun _ _ q => q
theorem Un.laid (k : ∀ b u, h.get? b = some u → h'.get? b = some u) (hp : h.objs.size ≤ a) (hn : H a = none) : Un fs ex H (upd H a o) h h' where
 keep := fun b u q _ _ _ => k b u q
 slot := fun b u q _ _ _ => ⟨u.slots, k b u q⟩
 free := fun b u q n _ => by rw [uN (Nat.ne_of_lt (Nat.lt_of_lt_of_le (Heap.lt_size q) hp))]; exact n
 there := fun b u q _ => ⟨u, k b u q⟩
 tups := fun b xs q => by rw [uN (ne_of_none q hn)]; exact q
 frzs := fun b u xs q => by rw [uN (ne_of_none q hn)]; exact q
 tbls := fun b ps q => ⟨#[], by rw [uN (ne_of_none q hn), q]; simp⟩
theorem Un.write (mu : Mut (H x)) (he : e = x ∨ H e = some (.own x)) (k : ∀ b u, b ≠ e → h.get? b = some u → h'.get? b = some u) (heo : ∃ u, h'.get? e = some u) : Un fs ex H (upd H x o) h h' := by
 have hx : ∀ b, H b = none → b ≠ x := fun b n z => by subst z; rw [n] at mu; exact mu
 have hb : ∀ b, H b = none → b ≠ e := fun b n z => by
  subst z
  rcases he with r | r
  ·exact hx b n r
  ·rw [n] at r; cases r
 have hm : ∀ b u, H b = some u → ¬ Mut (some u) → b ≠ x := fun b u q nm z => by subst z; rw [q] at mu; exact nm mu
 refine ⟨fun b u q n _ _ => k b u (hb b n) q, fun b u q n _ _ => ⟨u.slots, k b u (hb b n) q⟩, fun b u q n _ => by rw [uN (hx b n)]; exact n, fun b u q _ => ?_,
  fun b xs q => by rw [uN (hm b _ q fun z => z)]; exact q, fun b u xs q => by rw [uN (hm b _ q fun z => z)]; exact q, fun b ps q => ⟨#[], by rw [uN (hm b _ q fun z => z), q]; simp⟩⟩
 by_cases hbe : b = e
 ·subst hbe; exact heo
 ·exact ⟨u, k b u hbe q⟩
end
def trk (h : Heap) (H : Hp) : List Addr := (List.range h.objs.size).filter fun a => (H a).isSome
def hidT (h : Heap) (H : Hp) : Heap := W.hideAll h (trk h H)
theorem hidT_size (h : Heap) (H : Hp) : (hidT h H).objs.size = h.objs.size := W.hideAll_size _ _
theorem hidT_get {h : Heap} {H : Hp} {b : Addr} {o : Obj} (e : h.get? b = some o) (n : H b = none) : (hidT h H).get? b = some o :=
 W.hideAll_get _ e fun hm => by
  have q : (H b).isSome = true := (List.mem_filter.mp hm).2
  rw [n] at q; simp at q
theorem of_hidT {h : Heap} {H : Hp} {b : Addr} {o : Obj} (e : (hidT h H).get? b = some o) : h.get? b = some o ∧ H b = none := by
 have e' : h.get? b = some o := W.of_hideAll (trk h H) e
 refine ⟨e', ?_⟩
 cases q : H b with
 | none => rfl
 | some x =>
  have hm : b ∈ trk h H := List.mem_filter.mpr ⟨List.mem_range.mpr (Heap.lt_size e'), by simp [q]⟩
  have z : (hidT h H).get? b = none := W.hideAll_none (trk h H) hm
  rw [z] at e; cases e
end L2
namespace L2
open PySem PySem.Spec PyProof.Rows
structure Mod (K : W.Frag) (mg : Str → Option Value) (base : Heap) : Prop where
 kin : K.In base
 glob : base.Ns mainGlobals mg
 blt : ∃ mb, base.Ns builtinsNs mb ∧ ∀ x : Str, x ≠ "__name__" → mb x = bootBuiltins x
 nolimit : base.NoLimit
structure Cx where
 prog : Program
 w : World
 K : W.Frag
 mg : Str → Option Value
 base : Heap
 A : Around
 N : List Str
 s_0 : Shared
 H_0 : Hp
 env : Env
 outer : List Env
 stack : List Env
 ex : List Addr
 fn : Str → Bool
 calm : Bool
 pn : List (Addr × Obj)
 xe : Value → Shared → Prop
def frs (l : List Env) : List Addr := l.filterMap (·.frame)
abbrev Cx.fs (X : Cx) : List Addr := frs X.outer
def Vis (sc : Scope) (x : Str) : Prop := sc.names.lookup x = some .local ∨ sc.names.lookup x = some .cell ∨ sc.names.lookup x = some .free
def Loc (sc : Scope) (x : Str) : Prop := sc.names.lookup x = some .local ∨ sc.names.lookup x = some .cell
def Look (env : Env) (h : Heap) (m : Str → Option Value) (x : Str) (u : Value) : Prop :=
 (env.kindOf x = some .local ∧ m x = some u) ∨ ((env.kindOf x = some .cell ∨ env.kindOf x = some .free) ∧ ∃ c, env.cells.lookup x = some c ∧ h.IsCell c (some u))
structure Cx.Ok (X : Cx) : Prop where
 mod : Mod X.K X.mg X.base
 kind : X.env.scope.kind = .function
 glob : X.env.globals = mainGlobals
 blt : X.env.builtins = builtinsNs
 above : X.s_0.heap.objs.size ≤ X.env.locals
 inj : ∀ x y c, X.env.cells.lookup x = some c → X.env.cells.lookup y = some c → x = y
 has : ∀ x, (X.env.kindOf x = some .cell ∨ X.env.kindOf x = some .free) → ∃ c, X.env.cells.lookup x = some c
 cab : ∀ x c, X.fn x = true → X.env.cells.lookup x = some c → X.s_0.heap.objs.size ≤ c
 hd : X.calm = true → X.A.handled = none
 frames : X.A.frames = some X.stack
 stk : X.stack = X.outer ∨ (X.stack = X.env :: X.outer ∧ X.env.frame = some X.env.locals)
 exf : ∀ b ∈ X.ex, b ≠ X.env.locals ∧ ∀ x c, X.env.cells.lookup x = some c → c ≠ b
 bs : ∀ b o, X.base.get? b = some o → X.s_0.heap.get? b = some o ∧ X.H_0 b = none
 bsz : X.base.objs.size ≤ X.s_0.heap.objs.size
 noex : ∀ b o, X.base.get? b = some o → b ∉ X.ex
 exfs : ∀ b ∈ X.ex, b ∉ X.fs
 funs : X.s_0.heap.FunFrames X.base X.outer
 frf : ∀ b ∈ X.fs, X.H_0 b = none
structure Inv (X : Cx) (pins : List (Addr × Obj)) (σ : List (Option V)) (H : Hp) (s : Shared) : Prop where
 ok : X.Ok
 os : s.os = X.s_0.os
 bare : AllBare s.gens
 base : Un X.fs X.ex X.H_0 H X.s_0.heap s.heap
 loc : ∃ m, s.heap.Ns X.env.locals m ∧ ∀ (i : Nat) (x : Str) (v : V), X.N[i]? = some x → σ[i]? = some (some v) → Vis X.env.scope x → ∃ u, RelV v u ∧ Look X.env s.heap m x u
 cell : ∀ x c, X.env.cells.lookup x = some c → ∃ v, s.heap.IsCell c v
 free : H X.env.locals = none
 freeC : ∀ x c, X.env.cells.lookup x = some c → H c = none
 pin : ∀ p ∈ X.pn ++ pins, s.heap.get? p.1 = some p.2 ∧ H p.1 = none ∧ p.1 ≠ X.env.locals ∧ p.1 ∉ X.fs ∧ ∀ v, p.2.data ≠ .cell v
 hok : HOk X.prog X.w H s.heap
 len : σ.length = X.N.length
section
variable {X : Cx} {pins : List (Addr × Obj)} {σ : List (Option V)} {H H' : Hp} {s : Shared} {h' : Heap}
theorem Cx.Ok.nofr (ok : X.Ok) {b : Addr} {o : Obj} (e : X.base.get? b = some o) : b ∉ X.fs := fun hb => by
 have := (ok.funs.mem hb).1
 rw [e] at this; cases this
theorem Inv.bs (I : Inv X pins σ H s) : ∀ b o, X.base.get? b = some o → s.heap.get? b = some o ∧ H b = none := fun b o e =>
 ⟨I.base.keep b o (I.ok.bs b o e).1 (I.ok.bs b o e).2 (I.ok.nofr e) (I.ok.noex b o e), I.base.free b o (I.ok.bs b o e).1 (I.ok.bs b o e).2 (I.ok.noex b o e)⟩
theorem Inv.bk (I : Inv X pins σ H s) : ∀ b o, X.base.get? b = some o → s.heap.get? b = some o := fun b o e => (I.bs b o e).1
theorem Inv.mod (I : Inv X pins σ H s) : Mod X.K X.mg X.base := I.ok.mod
theorem Inv.kIn (I : Inv X pins σ H s) : X.K.In s.heap := I.ok.mod.kin.keeps I.bk
theorem Inv.nolimit (I : Inv X pins σ H s) : s.heap.NoLimit := I.ok.mod.nolimit.keeps I.bk
theorem Inv.lt (I : Inv X pins σ H s) : X.env.locals < s.heap.objs.size := let ⟨_, hn, _⟩ := I.loc; hn.lt
theorem Inv.sz (I : Inv X pins σ H s) : X.s_0.heap.objs.size ≤ s.heap.objs.size := Nat.le_trans I.ok.above (Nat.le_of_lt I.lt)
theorem Inv.nofs (I : Inv X pins σ H s) {a : Addr} (h : s.heap.objs.size ≤ a) : a ∉ X.fs := fun hb => by
 obtain ⟨_, o, ho, _⟩ := I.ok.funs.mem hb
 exact absurd (Nat.lt_of_lt_of_le (Heap.lt_size ho) (Nat.le_trans I.sz h)) (Nat.lt_irrefl _)
theorem Inv.cne (I : Inv X pins σ H s) : ∀ x c, X.env.cells.lookup x = some c → c ≠ X.env.locals := fun x c e z => by
 obtain ⟨v, o, ho, hd⟩ := I.cell x c e
 obtain ⟨m, ⟨o', es, ep, ho', hd', _⟩, _⟩ := I.loc
 rw [z, ho'] at ho; cases ho; rw [hd'] at hd; cases hd
theorem Inv.funs (I : Inv X pins σ H s) : s.heap.FunFrames X.base X.outer := by
 have all : ∀ (l : List Env), (∀ b ∈ frs l, b ∈ X.fs) → X.s_0.heap.FunFrames X.base l → s.heap.FunFrames X.base l := by
  intro l
  induction l with
  | nil => intro _ _; trivial
  | cons env r ih =>
   intro hs hl
   obtain ⟨hk, ⟨L, o, hf, hn, ho, hd⟩, hr⟩ := hl
   have hL : L ∈ X.fs := hs L (by unfold frs; rw [List.filterMap_cons, hf]; exact List.mem_cons_self)
   obtain ⟨sl, e⟩ := I.base.slot L o ho (I.ok.frf L hL) hL fun z => I.ok.exfs L z hL
   exact ⟨hk, ⟨L, _, hf, hn, e, hd⟩, ih (fun b hb => hs b (by unfold frs; rw [List.filterMap_cons, hf]; exact List.mem_cons_of_mem _ hb)) hr⟩
 exact all X.outer (fun _ hb => hb) I.ok.funs
theorem Inv.stack (I : Inv X pins σ H s) : s.heap.FunFrames X.base X.stack := by
 rcases I.ok.stk with e | ⟨e, hf⟩
 ·rw [e]; exact I.funs
 ·rw [e]
  obtain ⟨m, hn, _⟩ := I.loc
  refine .cons (by rw [I.ok.kind]; decide) hf hn ?_ I.funs
  exact Heap.get?_none_of_le (Nat.le_trans I.ok.bsz I.ok.above)
theorem Inv.stkSub (I : Inv X pins σ H s) : ∀ b ∈ frs X.stack, b ∈ X.env.locals :: X.fs := fun b hb => by
 rcases I.ok.stk with e | ⟨e, hf⟩
 ·rw [e] at hb; exact List.mem_cons_of_mem _ hb
 ·rw [e] at hb
  unfold frs at hb
  rw [List.filterMap_cons, hf] at hb
  exact hb
theorem Inv.stkFree (I : Inv X pins σ H s) : ∀ b ∈ frs X.stack, H b = none := fun b hb => by
 rcases List.mem_cons.mp (I.stkSub b hb) with e | hb
 ·rw [e]; exact I.free
 ·obtain ⟨_, o, ho, _⟩ := I.ok.funs.mem hb
  exact I.base.free b o ho (I.ok.frf b hb) fun z => I.ok.exfs b z hb
theorem Inv.step {g' : Array GenState} {t' : Nat} {d' : Drawn} {ch : List Addr} (I : Inv X pins σ H s)
  (hch : ∀ b ∈ ch, (b ∈ X.ex ∨ X.s_0.heap.objs.size ≤ b) ∧ b ≠ X.env.locals ∧ (∀ x c, X.env.cells.lookup x = some c → c ≠ b) ∧ ∀ p ∈ X.pn ++ pins, p.1 ≠ b)
  (keep : ∀ b o, b ≠ X.env.locals → b ∉ X.fs → b ∉ ch → s.heap.get? b = some o → H b = none → h'.get? b = some o)
  (slot : ∀ b o, b ≠ X.env.locals → b ∈ X.fs → b ∉ ch → s.heap.get? b = some o → H b = none → ∃ sl, h'.get? b = some { o with slots := sl }) (free : ∀ b o, b ∉ ch → s.heap.get? b = some o → H b = none → H' b = none)
  (there : ∀ b o, b ∉ ch → s.heap.get? b = some o → ∃ o', h'.get? b = some o')
  (tups : ∀ b xs, H b = some (.tup xs) → H' b = some (.tup xs)) (frzs : ∀ b o u, H b = some (.frz o u) → H' b = some (.frz o u)) (tbls : ∀ b ps, H b = some (.tbl ps) → ∃ more, H' b = some (.tbl (ps ++ more)))
  (ns : ∀ m, s.heap.Ns X.env.locals m → h'.Ns X.env.locals m) (hok : HOk X.prog X.w H' h') (hg : AllBare g') :
  Inv X pins σ H' { s with heap := h', gens := g', drawn := d', toks := t' } := by
 have neL : ∀ b o, X.s_0.heap.get? b = some o → b ≠ X.env.locals := fun b o e => Nat.ne_of_lt (Nat.lt_of_lt_of_le (Heap.lt_size e) I.ok.above)
 have neC : ∀ b o, X.s_0.heap.get? b = some o → b ∉ X.ex → b ∉ ch := fun b o e hx hb => by
  rcases (hch b hb).1 with z | z
  ·exact hx z
  ·exact absurd (Nat.lt_of_lt_of_le (Heap.lt_size e) z) (Nat.lt_irrefl _)
 have cellK : ∀ x c, X.env.cells.lookup x = some c → ∀ v, s.heap.IsCell c v → h'.IsCell c v := fun x c e v ⟨o, ho, hd⟩ => by
  have nch : c ∉ ch := fun z => (hch c z).2.2.1 x c e rfl
  by_cases hc : c ∈ X.fs
  ·obtain ⟨sl, q⟩ := slot c o (I.cne x c e) hc nch ho (I.freeC x c e)
   exact ⟨_, q, hd⟩
  ·exact ⟨o, keep c o (I.cne x c e) hc nch ho (I.freeC x c e), hd⟩
 refine ⟨I.ok, I.os, hg, ⟨fun b o e n hb hx => ?_, fun b o e n hb hx => ?_, fun b o e n hx => ?_, fun b o e hx => ?_, fun b xs e => tups b xs (I.base.tups b xs e), fun b o xs e => frzs b o xs (I.base.frzs b o xs e), fun b ps e => ?_⟩, ?_, fun x c e => ?_, ?_, fun x c e => ?_, fun p hp => ?_, hok, I.len⟩
 ·exact keep b o (neL b o e) hb (neC b o e hx) (I.base.keep b o e n hb hx) (I.base.free b o e n hx)
 ·obtain ⟨sl, e1⟩ := I.base.slot b o e n hb hx
  obtain ⟨sl', e2⟩ := slot b _ (neL b o e) hb (neC b o e hx) e1 (I.base.free b o e n hx)
  exact ⟨sl', e2⟩
 ·obtain ⟨o', e1⟩ := I.base.there b o e hx
  exact free b o' (neC b o e hx) e1 (I.base.free b o e n hx)
 ·obtain ⟨o', e1⟩ := I.base.there b o e hx
  exact there b o' (neC b o e hx) e1
 ·obtain ⟨m1, e1⟩ := I.base.tbls b ps e
  obtain ⟨m2, e2⟩ := tbls b _ e1
  exact ⟨m1 ++ m2, by rw [e2, Array.append_assoc]⟩
 ·obtain ⟨m, hn, hl⟩ := I.loc
  refine ⟨m, ns m hn, fun i x v e1 e2 e3 => ?_⟩
  obtain ⟨u, r, l⟩ := hl i x v e1 e2 e3
  refine ⟨u, r, ?_⟩
  rcases l with l | ⟨k, c, e, z⟩
  ·exact .inl l
  ·exact .inr ⟨k, c, e, cellK x c e _ z⟩
 ·obtain ⟨v, z⟩ := I.cell x c e
  exact ⟨v, cellK x c e v z⟩
 ·obtain ⟨m, ⟨o, _, _, ho, _⟩, _⟩ := I.loc
  exact free _ o (fun z => (hch _ z).2.1 rfl) ho I.free
 ·obtain ⟨v, o, ho, hd⟩ := I.cell x c e
  exact free c o (fun z => (hch c z).2.2.1 x c e rfl) ho (I.freeC x c e)
 ·obtain ⟨e, n, ne, nf, d⟩ := I.pin p hp
  have nch : p.1 ∉ ch := fun z => (hch p.1 z).2.2.2 p hp rfl
  exact ⟨keep p.1 p.2 ne nf nch e n, free p.1 p.2 nch e n, ne, nf, d⟩
theorem Inv.un {t' : Nat} (I : Inv X pins σ H s) (u : Un X.fs [] H H' s.heap h') (hok : HOk X.prog X.w H' h') : Inv X pins σ H' { s with heap := h', toks := t' } := by
 obtain ⟨m, ⟨o, es, ep, ho, r⟩, _⟩ := id I.loc
 obtain ⟨sl, hL⟩ := u.any ho I.free (by simp)
 exact I.step (g' := s.gens) (d' := s.drawn) (ch := []) (fun _ z => nomatch z) (fun b o _ hb _ e n => u.keep b o e n hb (by simp)) (fun b o _ hb _ e n => u.slot b o e n hb (by simp)) (fun b o _ e n => u.free b o e n (by simp)) (fun b o _ e => u.there b o e (by simp)) u.tups u.frzs u.tbls (fun m' hm => by
  obtain ⟨o', es', ep', ho', r'⟩ := hm
  rw [ho] at ho'; cases ho'
  exact ⟨_, es', ep', hL, r'⟩) hok I.bare
theorem Inv.call {g' : Array GenState} {t' : Nat} {d' : Drawn} {ch : List Addr} (I : Inv X pins σ H s) (u : Un (frs X.stack) ch H H' s.heap h') (hok : HOk X.prog X.w H' h') (hg : AllBare g')
  (hch : ∀ b ∈ ch, (b ∈ X.ex ∨ X.s_0.heap.objs.size ≤ b) ∧ b ≠ X.env.locals ∧ (∀ x c, X.env.cells.lookup x = some c → c ≠ b) ∧ ∀ p ∈ X.pn ++ pins, p.1 ≠ b) :
  Inv X pins σ H' { s with heap := h', gens := g', drawn := d', toks := t' } := by
 obtain ⟨m, ⟨o, es, ep, ho, r⟩, _⟩ := id I.loc
 obtain ⟨sl, hL⟩ := u.any ho I.free fun z => (hch _ z).2.1 rfl
 exact I.step (ch := ch) hch (fun b o hL hb hc e n => u.keep b o e n (fun z => (List.mem_cons.mp (I.stkSub b z)).elim hL hb) hc) (fun b o _ _ hc e n => u.any e n hc) (fun b o hc e n => u.free b o e n hc) (fun b o hc e => u.there b o e hc) u.tups u.frzs u.tbls (fun m' hm => by
  obtain ⟨o', es', ep', ho', r'⟩ := hm
  rw [ho] at ho'; cases ho'
  exact ⟨_, es', ep', hL, r'⟩) hok hg
theorem Inv.turned {t' : Nat} {it : Addr} (I : Inv X pins σ H s) (k : ∀ b o, b ≠ it → s.heap.get? b = some o → h'.get? b = some o) (hn : H it = none) (hL : it ≠ X.env.locals)
  (h1 : it ∈ X.ex ∨ X.s_0.heap.objs.size ≤ it) (h2 : ∀ x c, X.env.cells.lookup x = some c → c ≠ it) (h3 : ∀ p ∈ X.pn ++ pins, p.1 ≠ it) : Inv X pins σ H { s with heap := h', toks := t' } := by
 have nit : ∀ b u, H b = some u → b ≠ it := fun b u e z => by rw [z, hn] at e; cases e
 refine I.step (g' := s.gens) (d' := s.drawn) (ch := [it]) (fun b hb => ?_) (fun b o _ _ hc e _ => k b o (fun z => hc (by simp [z])) e) (fun b o _ _ hc e _ => ⟨o.slots, k b o (fun z => hc (by simp [z])) e⟩) (fun _ _ _ _ n => n)
  (fun b o hc e => ⟨o, k b o (fun z => hc (by simp [z])) e⟩) (fun _ _ e => e) (fun _ _ _ e => e) (fun b ps e => ⟨#[], by rw [e]; simp⟩) (fun m hm => ?_) (fun b u e => ?_) I.bare
 ·have e : b = it := by simpa using hb
  subst e
  exact ⟨h1, hL, h2, h3⟩
 ·obtain ⟨o, es, ep, ho, r⟩ := hm
  exact ⟨o, es, ep, k _ o (Ne.symm hL) ho, r⟩
 ·refine (I.hok b u e).stay (fun c v hc q => k c v ?_ q) (fun _ q => q) fun _ _ q => q
  rcases hc with z | z
  ·rw [z]; exact nit b u e
  ·exact nit c _ z
theorem Inv.tok (I : Inv X pins σ H s) (t : Nat) : Inv X pins σ H { s with toks := t } := I.un (h' := s.heap) (t' := t) Un.refl I.hok
theorem Inv.kept {t' : Nat} (I : Inv X pins σ H s) (k : ∀ b u, s.heap.get? b = some u → h'.get? b = some u) : Inv X pins σ H { s with heap := h', toks := t' } := I.un (Un.kept k) (I.hok.kept k)
theorem Inv.laid {a : Addr} {o : HO} {t' : Nat} (I : Inv X pins σ H s) (k : ∀ b u, s.heap.get? b = some u → h'.get? b = some u) (hp : s.heap.objs.size ≤ a) (new : ObjOk X.prog X.w (upd H a o) h' a o) :
  Inv X pins σ (upd H a o) { s with heap := h', toks := t' } := I.un (Un.laid k hp (I.hok.fresh hp)) (I.hok.laid k hp new)
theorem Inv.write {x e : Addr} {o : HO} {t' : Nat} (I : Inv X pins σ H s) (mu : Mut (H x)) (he : e = x ∨ H e = some (.own x)) (k : ∀ b u, b ≠ e → s.heap.get? b = some u → h'.get? b = some u) (heo : ∃ u, h'.get? e = some u)
  (new : ObjOk X.prog X.w (upd H x o) h' x o) : Inv X pins σ (upd H x o) { s with heap := h', toks := t' } := I.un (Un.write mu he k heo) (I.hok.write mu he k heo new)
theorem Inv.weak {σ' : List (Option V)} (I : Inv X pins σ H s) (hl : σ'.length = σ.length) (w : ∀ (i : Nat) v, σ'[i]? = some (some v) → σ[i]? = some (some v)) : Inv X pins σ' H s :=
 ⟨I.ok, I.os, I.bare, I.base, let ⟨m, hn, hl'⟩ := I.loc; ⟨m, hn, fun i x v e1 e2 e3 => hl' i x v e1 (w i v e2) e3⟩, I.cell, I.free, I.freeC, I.pin, I.hok, hl.trans I.len⟩
theorem Inv.pins_of {pins' : List (Addr × Obj)} (I : Inv X pins σ H s) (h : ∀ p ∈ pins', s.heap.get? p.1 = some p.2 ∧ H p.1 = none ∧ p.1 ≠ X.env.locals ∧ p.1 ∉ X.fs ∧ ∀ v, p.2.data ≠ .cell v) : Inv X pins' σ H s :=
 ⟨I.ok, I.os, I.bare, I.base, I.loc, I.cell, I.free, I.freeC, fun p hp => (List.mem_append.mp hp).elim (fun z => I.pin p (List.mem_append_left _ z)) (h p), I.hok, I.len⟩
theorem nodup_ix {N : List Str} (hN : N.Nodup) {i j : Nat} {x : Str} (a : N[i]? = some x) (b : N[j]? = some x) : i = j := by
 obtain ⟨h1, e1⟩ := List.getElem?_eq_some_iff.mp a
 obtain ⟨h2, e2⟩ := List.getElem?_eq_some_iff.mp b
 exact (List.getElem_inj hN).mp (e1.trans e2.symm)
theorem store_ok2 {M : Model} {A : Around} {E : Value → Shared → Prop} {i : Nat} {x : Str} {v : V} {u : Value} {Q : Unit → Shared → Prop} (I : Inv X pins σ H s) (hN : X.N.Nodup) (hi : X.N[i]? = some x) (hx : Loc X.env.scope x) (r : RelV v u)
  (h : ∀ s', Inv X pins (σ.set i (some v)) H s' → (∃ a, Heap.SameBut a s.heap s'.heap ∧ (a = X.env.locals ∨ X.env.cells.lookup x = some a)) → Q () s') (hf : X.fn x = true ∨ X.env.scope.names.lookup x = some .local := by first | exact .inl rfl | exact .inr rfl | assumption) : wpAny M A (storeName X.env x u) Q E s := by
 obtain ⟨m, hn, hl⟩ := id I.loc
 have hcls : (X.env.scope.kind == .class || (X.env.scope.kind == .module && X.env.locals != X.env.globals)) = false := by rw [I.ok.kind]; rfl
 have hiσ : i < σ.length := by rw [I.len]; exact (List.getElem?_eq_some_iff.mp hi).1
 have cne := I.cne
 have tracked : ∀ {a : Addr} {h' : Heap}, (∃ o, s.heap.get? a = some o ∧ H a = none) → Heap.SameBut a s.heap h' → HOk X.prog X.w H h' := fun {a h'} ha hs b ob e => by
  obtain ⟨_, _, hfree⟩ := ha
  refine (I.hok b ob e).stay (fun c w' hc q => (hs.2 c ?_).trans q) (fun _ q => q) fun _ _ q => q
  rintro rfl
  rcases hc with rfl | hc
  ·rw [hfree] at e; cases e
  ·rw [hfree] at hc; cases hc
 rcases hx with hk | hk
 ·refine wpAny_storeName_local hk hn (fun h' hn' hs => ?_) hcls
  obtain ⟨oL, _, _, hoL, _⟩ := id hn
  refine h _ ⟨I.ok, I.os, I.bare, ⟨fun b o e n hb hx => ?_, fun b o e n hb hx => ?_, I.base.free, fun b o e hx => ?_, I.base.tups, I.base.frzs, I.base.tbls⟩, ⟨_, hn', fun j y v' e1 e2 e3 => ?_⟩, fun y c e => ?_, I.free, I.freeC, fun p hp => ?_, tracked ⟨oL, hoL, I.free⟩ hs, by simpa using I.len⟩ ⟨_, hs, .inl rfl⟩
  ·exact (hs.2 b (Nat.ne_of_lt (Nat.lt_of_lt_of_le (Heap.lt_size e) I.ok.above))).trans (I.base.keep b o e n hb hx)
  ·obtain ⟨sl, e1⟩ := I.base.slot b o e n hb hx
   exact ⟨sl, (hs.2 b (Nat.ne_of_lt (Nat.lt_of_lt_of_le (Heap.lt_size e) I.ok.above))).trans e1⟩
  ·obtain ⟨o', e1⟩ := I.base.there b o e hx
   exact ⟨o', (hs.2 b (Nat.ne_of_lt (Nat.lt_of_lt_of_le (Heap.lt_size e) I.ok.above))).trans e1⟩
  ·by_cases hj : j = i
   ·subst hj
    rw [hi] at e1; cases e1
    rw [List.getElem?_set_self hiσ] at e2
    cases e2
    exact ⟨u, r, .inl ⟨hk, by simp⟩⟩
   ·rw [List.getElem?_set_ne (Ne.symm hj)] at e2
    obtain ⟨u', r', q⟩ := hl j y v' e1 e2 e3
    refine ⟨u', r', ?_⟩
    rcases q with ⟨k, e⟩ | ⟨k, c, e, z⟩
    ·refine .inl ⟨k, ?_⟩
     have : y ≠ x := fun e => hj (nodup_ix hN e1 (e ▸ hi))
     simp [this, e]
    ·exact .inr ⟨k, c, e, z.sameBut hs (cne y c e)⟩
  ·obtain ⟨w', z⟩ := I.cell y c e
   exact ⟨w', z.sameBut hs (cne y c e)⟩
  ·obtain ⟨e, n, ne, nf, d⟩ := I.pin p hp
   exact ⟨(hs.2 p.1 ne).trans e, n, ne, nf, d⟩
 ·have hfn : X.fn x = true := by
   rcases hf with z | z
   ·exact z
   ·rw [z] at hk; cases hk
  obtain ⟨c, hc⟩ := I.ok.has x (.inl hk)
  obtain ⟨w', z⟩ := I.cell x c hc
  refine wpAny_storeName_cell I.ok.kind hk hc z (fun h' hc' hs => ?_)
  obtain ⟨oc, hoc, hocd⟩ := id z
  refine h { s with heap := h' } ⟨I.ok, I.os, I.bare, ⟨fun b o e n hb hx => ?_, fun b o e n hb hx => ?_, I.base.free, fun b o e hx => ?_, I.base.tups, I.base.frzs, I.base.tbls⟩, ⟨m, hn.sameBut hs (Ne.symm (cne x c hc)), fun j y v' e1 e2 e3 => ?_⟩, fun y c' e => ?_, I.free, I.freeC, fun p hp => ?_, tracked ⟨oc, hoc, I.freeC x c hc⟩ hs, by simpa using I.len⟩ ⟨c, hs, .inr hc⟩
  ·exact (hs.2 b (Nat.ne_of_lt (Nat.lt_of_lt_of_le (Heap.lt_size e) (I.ok.cab x c hfn hc)))).trans (I.base.keep b o e n hb hx)
  ·obtain ⟨sl, e1⟩ := I.base.slot b o e n hb hx
   exact ⟨sl, (hs.2 b (Nat.ne_of_lt (Nat.lt_of_lt_of_le (Heap.lt_size e) (I.ok.cab x c hfn hc)))).trans e1⟩
  ·obtain ⟨o', e1⟩ := I.base.there b o e hx
   exact ⟨o', (hs.2 b (Nat.ne_of_lt (Nat.lt_of_lt_of_le (Heap.lt_size e) (I.ok.cab x c hfn hc)))).trans e1⟩
  ·by_cases hj : j = i
   ·subst hj
    rw [hi] at e1; cases e1
    rw [List.getElem?_set_self hiσ] at e2
    cases e2
    exact ⟨u, r, .inr ⟨.inl hk, c, hc, hc'⟩⟩
   ·rw [List.getElem?_set_ne (Ne.symm hj)] at e2
    obtain ⟨u', r', q⟩ := hl j y v' e1 e2 e3
    refine ⟨u', r', ?_⟩
    rcases q with q | ⟨k, c', e, z'⟩
    ·exact .inl q
    ·refine .inr ⟨k, c', e, z'.sameBut hs ?_⟩
     rintro rfl
     exact hj (nodup_ix hN e1 (I.ok.inj _ _ _ e hc ▸ hi))
  ·by_cases hcc : c' = c
   ·subst hcc; exact ⟨_, hc'⟩
   ·obtain ⟨w2, z2⟩ := I.cell y c' e
    exact ⟨w2, z2.sameBut hs hcc⟩
  ·obtain ⟨e, n, ne, nf, d⟩ := I.pin p hp
   refine ⟨(hs.2 p.1 ?_).trans e, n, ne, nf, d⟩
   intro q
   rw [q, hoc] at e
   have q' : oc = p.2 := Option.some.inj e
   exact d w' (by rw [← q']; exact hocd)
theorem store_ok {M : Model} {A : Around} {E : Value → Shared → Prop} {i : Nat} {x : Str} {v : V} {u : Value} {Q : Unit → Shared → Prop} (I : Inv X pins σ H s) (hN : X.N.Nodup) (hi : X.N[i]? = some x) (hx : Loc X.env.scope x) (r : RelV v u)
  (h : ∀ s', Inv X pins (σ.set i (some v)) H s' → Q () s') (hf : X.fn x = true ∨ X.env.scope.names.lookup x = some .local := by first | exact .inl rfl | exact .inr rfl | assumption) : wpAny M A (storeName X.env x u) Q E s :=
 store_ok2 I hN hi hx r (fun s' I' _ => h s' I') hf
theorem Inv.call' {s' : Shared} {ch : List Addr} (I : Inv X pins σ H s) (ho : s'.os = s.os) (u : Un (frs X.stack) ch H H' s.heap s'.heap) (hok : HOk X.prog X.w H' s'.heap) (hg : AllBare s'.gens)
  (hch : ∀ b ∈ ch, (b ∈ X.ex ∨ X.s_0.heap.objs.size ≤ b) ∧ b ≠ X.env.locals ∧ (∀ x c, X.env.cells.lookup x = some c → c ≠ b) ∧ ∀ p ∈ X.pn ++ pins, p.1 ≠ b) : Inv X pins σ H' s' := by
 obtain ⟨h', g', d', t', o'⟩ := s'
 have e : o' = s.os := ho
 subst e
 exact I.call (g' := g') (t' := t') (d' := d') u hok hg hch
end
abbrev XK := Value → Option Addr → Hp → Prop
abbrev St := List (Option V)
abbrev VK := V → Hp → Prop
abbrev TE := St → Hp → VK → Prop
abbrev TT := St → Hp → (Bool → Hp → Prop) → Prop
abbrev TA := St → Hp → (List V → Hp → Prop) → Prop
structure Ends where
 nx : St → Hp → Prop
 rt : VK
 bk : St → Hp → Prop := fun _ _ => False
 ct : St → Hp → Prop := fun _ _ => False
abbrev TS := Ends → St → Hp → Prop
def EP (X : Cx) (pins : List (Addr × Obj)) (σ : St) (Q : VK) (u : Value) (s' : Shared) : Prop := ∃ v H', Inv X pins σ H' s' ∧ RelV v u ∧ Q v H'
def TP (X : Cx) (pins : List (Addr × Obj)) (σ : St) (Q : Bool → Hp → Prop) (b : Bool) (s' : Shared) : Prop := ∃ H', Inv X pins σ H' s' ∧ Q b H'
def AP (X : Cx) (pins : List (Addr × Obj)) (σ : St) (Q : List V → Hp → Prop) (us : List Value) (s' : Shared) : Prop := ∃ vs H', Inv X pins σ H' s' ∧ Vals vs us ∧ Q vs H'
def SP (X : Cx) (pins : List (Addr × Obj)) (D : Ends) (f : Flow) (s' : Shared) : Prop :=
 match f with
 | .next => ∃ σ' H', Inv X pins σ' H' s' ∧ D.nx σ' H'
 | .brk => ∃ σ' H', Inv X pins σ' H' s' ∧ D.bk σ' H'
 | .cont => ∃ σ' H', Inv X pins σ' H' s' ∧ D.ct σ' H'
 | .ret u => ∃ v σ' H', Inv X pins σ' H' s' ∧ RelV v u ∧ D.rt v H'
def PE (X : Cx) (e : Expr) (t : TE) : Prop :=
 ∀ (pins : List (Addr × Obj)) (s : Shared) (σ : St) (H : Hp) (Q : VK), Inv X pins σ H s → t σ H Q → wpAny (model X.prog X.w) X.A (eval e X.env) (EP X pins σ Q) X.xe s
def PT (X : Cx) (e : Expr) (t : TT) : Prop :=
 ∀ (pins : List (Addr × Obj)) (s : Shared) (σ : St) (H : Hp) (Q : Bool → Hp → Prop), Inv X pins σ H s → t σ H Q → wpAny (model X.prog X.w) X.A (isTrue e X.env (eval e X.env)) (TP X pins σ Q) X.xe s
def PW (X : Cx) (e : Expr) (t : TT) : Prop :=
 ∀ (whole : Sem Value) (pins : List (Addr × Obj)) (s : Shared) (σ : St) (H : Hp) (Q : Bool → Hp → Prop), Inv X pins σ H s → t σ H Q → wpAny (model X.prog X.w) X.A (isTrue e X.env whole) (TP X pins σ Q) X.xe s
theorem PW.pt {X : Cx} {e : Expr} {t : TT} (h : PW X e t) : PT X e t := h _
def PA (X : Cx) (es : List Expr) (t : TA) : Prop :=
 ∀ (pos : Pos) (pins : List (Addr × Obj)) (s : Shared) (σ : St) (H : Hp) (Q : List V → Hp → Prop), Inv X pins σ H s → t σ H Q → wpAny (model X.prog X.w) X.A (spliced (backTo pos (starEach es X.env))) (AP X pins σ Q) X.xe s
def PS (X : Cx) (st : Stmt) (t : TS) : Prop :=
 ∀ (pins : List (Addr × Obj)) (s : Shared) (σ : St) (H : Hp) (D : Ends), Inv X pins σ H s → t D σ H → wpAny (model X.prog X.w) X.A (exec st X.env) (SP X pins D) X.xe s
def PSs (X : Cx) (st : List Stmt) (t : TS) : Prop :=
 ∀ (pins : List (Addr × Obj)) (s : Shared) (σ : St) (H : Hp) (D : Ends), Inv X pins σ H s → t D σ H → wpAny (model X.prog X.w) X.A (execs st X.env) (SP X pins D) X.xe s
theorem thn {α : Type} {t : Sem α} {Q Q' : α → Shared → Prop} {M : Model} {A : Around} {E : Value → Shared → Prop} {s : Shared} (h : wpAny M A t Q E s) (hQ : ∀ a s, Q a s → Q' a s) : wpAny M A t Q' E s := wpAny_mono h hQ fun _ _ x => x
end L2
namespace L2
open PySem PySem.Spec PyProof.Rows
section
variable {X : Cx}
def tVar (i : Nat) : TE := fun σ H Q => ∃ v, σ[i]? = some (some v) ∧ Q v H
def tC (v : V) : TE := fun _ H Q => Q v H
theorem pe_var {i : Nat} {x : Str} {pos : Pos} (hN : X.N[i]? = some x) (hv : Vis X.env.scope x) (hd : (x == ("__debug__" : Str)) = false := by decide) (hcd : (x == ("__classdict__" : Str)) = false := by decide) : PE X (.Name x pos) (tVar i) := by
 intro pins s σ H Q I h
 obtain ⟨v, e, h⟩ := h
 obtain ⟨m, hn, hl⟩ := I.loc
 obtain ⟨u, r, l⟩ := hl i x v hN e hv
 have fin : EP X pins σ Q u s := ⟨v, H, I, r, h⟩
 rcases l with ⟨hk, hm⟩ | ⟨hk, c, hc, hcell⟩
 ·exact wpAny_Name (wpAny_loadName_local I.ok.kind hk hn hm fin) hd
 ·rcases hk with hk | hk
  ·exact wpAny_Name (wpAny_loadName_cell I.ok.kind hk hc hcell fin) hd
  ·exact wpAny_Name (wpAny_loadName_free I.ok.kind hk hc hcell fin hcd) hd
theorem pe_int {i j pos} : PE X (.Constant (.int i) j pos) (tC (.int i)) := fun _ _ _ H _ I h => wpAny_Constant_int ⟨.int i, H, I.tok _, ⟨_, rfl⟩, h⟩
theorem pe_bl {b j pos} : PE X (.Constant (.bool b) j pos) (tC (.bl b)) := fun _ _ _ H _ I h => Constant_bool ⟨.bl b, H, I, rfl, h⟩
theorem pe_non {j pos} : PE X (.Constant .none j pos) (tC .non) := fun _ _ _ H _ I h => Constant_none ⟨.non, H, I, rfl, h⟩
def Gl (X : Cx) (x : Str) : Prop := X.env.kindOf x = some .globalImplicit
theorem ld_glob {E : Value → Shared → Prop} {pins : List (Addr × Obj)} {s : Shared} {σ : St} {H : Hp} {x : Str} {u : Value} {pos : Pos} {Q : Value → Shared → Prop} (I : Inv X pins σ H s) (hg : Gl X x) (hm : X.mg x = some u) (h : Q u s)
  (hd : (x == ("__debug__" : Str)) = false := by decide) : wpAny (model X.prog X.w) X.A (eval (.Name x pos) X.env) Q E s :=
 Calls.Name_function_global I.ok.kind hg (Calls.loadGlobal_global (by rw [I.ok.glob]; exact I.mod.glob.keeps I.bk) hm h) hd
theorem ld_blt {E : Value → Shared → Prop} {pins : List (Addr × Obj)} {s : Shared} {σ : St} {H : Hp} {x : Str} {u : Value} {pos : Pos} {Q : Value → Shared → Prop} (I : Inv X pins σ H s) (hg : Gl X x) (hm : X.mg x = none) (hv : bootBuiltins x = some u) (h : Q u s)
  (hn : x ≠ "__name__" := by decide) (hd : (x == ("__debug__" : Str)) = false := by decide) : wpAny (model X.prog X.w) X.A (eval (.Name x pos) X.env) Q E s := by
 obtain ⟨mb, h1, h2⟩ := I.mod.blt
 exact Calls.Name_function_global I.ok.kind hg (Calls.loadGlobal_builtin (by rw [I.ok.glob]; exact I.mod.glob.keeps I.bk) hm (by rw [I.ok.blt]; exact h1.keeps I.bk) ((h2 x hn).trans hv) h) hd
theorem pe_glob {x : Str} {v : V} {u : Value} {pos : Pos} (hg : Gl X x) (hm : X.mg x = some u) (r : RelV v u) (hd : (x == ("__debug__" : Str)) = false := by decide) : PE X (.Name x pos) (tC v) :=
 fun _ _ _ H _ I h => ld_glob I hg hm ⟨v, H, I, r, h⟩ hd
variable {a b : Expr} {ta tb : TE} {pos : Pos}
def PC (X : Cx) (op : CmpOp) (a b : Expr) (t : TE) : Prop :=
 ∀ (pins : List (Addr × Obj)) (s : Shared) (σ : St) (H : Hp) (Q : VK), Inv X pins σ H s → t σ H Q →
  wpAny (model X.prog X.w) X.A (eval a X.env) (fun v s₁ => wpAny (model X.prog X.w) X.A (eval b X.env) (fun u s₂ => wpAny (model X.prog X.w) X.A (compareOp op v u) (EP X pins σ Q) X.xe s₂) X.xe s₁) X.xe s
theorem nobehind (b : Expr) {op : CmpOp} (h : op ≠ .In) (h2 : op ≠ .NotIn) : behindInMarks op b = false := by
 have e1 : (op == CmpOp.In) = false := by cases op <;> first | rfl | exact absurd rfl h
 have e2 : (op == CmpOp.NotIn) = false := by cases op <;> first | rfl | exact absurd rfl h2
 cases b <;> simp [behindInMarks, e1, e2]
def tIsN (ta : TE) : TE := fun σ H Q => ta σ H fun x H1 => Q (.bl (decide (x = .non))) H1
theorem RelV.none_iff {x : V} {v : Value} (r : RelV x v) : (v == Value.none) = decide (x = .non) := by
 cases x with
 | non => cases r; rfl
 | bl _ => cases r; rfl
 | int _ => obtain ⟨t, rfl⟩ := r; rfl
 | str _ => obtain ⟨t, rfl⟩ := r; rfl
 | byt _ => obtain ⟨t, rfl⟩ := r; rfl
 | flt _ => obtain ⟨t, rfl⟩ := r; rfl
 | ref _ => cases r; rfl
 | ty _ => cases r; rfl
theorem pc_isN {j pos'} (ha : PE X a ta) : PC X .Is a (.Constant .none j pos') (tIsN ta) := by
 intro pins s σ H Q I h
 refine thn (ha pins s σ H _ I h) fun v s1 ⟨x, H1, I1, r1, q1⟩ => ?_
 exact Constant_none (is_none_gen ⟨.bl _, H1, I1, by rw [r1.none_iff]; rfl, q1⟩)
def tB (t : TE) : TT := fun σ H Q => t σ H fun x H1 => ∃ c, x = .bl c ∧ Q c H1
theorem pe_cmp {op : CmpOp} {t : TE} (h : PC X op a b t) (h1 : behindInMarks op b = false := by first | exact nobehind _ (by decide) (by decide) | rfl) : PE X (.Compare a [op] [b] pos) t := fun pins s σ H Q I hw => wpAny_Compare1 (h pins s σ H Q I hw) h1
theorem pt_cmp {op : CmpOp} {t : TE} (h : PC X op a b t) (h1 : behindInMarks op b = false := by first | exact nobehind _ (by decide) (by decide) | rfl) : PT X (.Compare a [op] [b] pos) (tB t) := by
 intro pins s σ H Q I hw
 refine wpAny_isTrue_Compare1 (thn (h pins s σ H _ I hw) fun v s1 h1 => thn h1 fun u s2 h2 => thn h2 fun c s3 ⟨x, H1, I1, r1, q1⟩ => ?_) h1
 obtain ⟨d, rfl, q⟩ := q1
 cases r1
 exact wpAny_truthy_bool ⟨H1, I1, q⟩
theorem pt_val {e : Expr} {t : TE} (h : PE X e t) (he : ∀ whole, isTrue e X.env whole = (do let v ← whole; standAt e.pos; holding [v] (truthy v)) := by intro _; rfl) : PT X e (tB t) := by
 intro pins s σ H Q I hw
 refine isTrue_plain (thn (h pins s σ H _ I hw) fun v s1 ⟨x, H1, I1, r1, q1⟩ => ?_) (he _)
 obtain ⟨d, rfl, q⟩ := q1
 cases r1
 exact wpAny_truthy_bool ⟨H1, I1, q⟩
variable {tA tB' : TT} {rest : List Expr}
def tAnd (t u : TT) : TT := fun σ H Q => t σ H fun c H1 => if c = true then u σ H1 Q else Q false H1
def tOr (t u : TT) : TT := fun σ H Q => t σ H fun c H1 => if c = true then Q true H1 else u σ H1 Q
def tNot (t : TT) : TT := fun σ H Q => t σ H fun c H1 => Q (!c) H1
theorem pw_and1 (ha : PT X a tA) : PW X (.BoolOp .And [a] pos) tA := by
 intro wh pins s σ H Q I h
 refine isTrue_and (thn (ha pins s σ H Q I h) fun c s1 e => ?_)
 cases c with
 | true => exact isTrue_and_nil e
 | false => exact e
theorem pw_or1 (ha : PT X a tA) : PW X (.BoolOp .Or [a] pos) tA := by
 intro wh pins s σ H Q I h
 refine isTrue_or (thn (ha pins s σ H Q I h) fun c s1 e => ?_)
 cases c with
 | false => exact isTrue_or_nil e
 | true => exact e
theorem pw_and (ha : PT X a tA) (hb : PW X (.BoolOp .And (b :: rest) pos) tB') : PW X (.BoolOp .And (a :: b :: rest) pos) (tAnd tA tB') := by
 intro wh pins s σ H Q I h
 refine isTrue_and (thn (ha pins s σ H _ I h) fun c s1 ⟨H1, I1, q1⟩ => ?_)
 cases c with
 | true => exact hb wh pins s1 σ H1 Q I1 q1
 | false => exact ⟨H1, I1, q1⟩
theorem pw_or (ha : PT X a tA) (hb : PW X (.BoolOp .Or (b :: rest) pos) tB') : PW X (.BoolOp .Or (a :: b :: rest) pos) (tOr tA tB') := by
 intro wh pins s σ H Q I h
 refine isTrue_or (thn (ha pins s σ H _ I h) fun c s1 ⟨H1, I1, q1⟩ => ?_)
 cases c with
 | true => exact ⟨H1, I1, q1⟩
 | false => exact hb wh pins s1 σ H1 Q I1 q1
theorem pt_not (ha : PT X a tA) : PT X (.UnaryOp .Not a pos) (tNot tA) := by
 intro pins s σ H Q I h
 exact isTrue_not (ha pins s σ H (fun c H1 => Q (!c) H1) I h)
def tAndV (ta tb : TE) : TE := fun σ H Q => ta σ H fun x H1 => ∃ c, x = .bl c ∧ if c = true then tb σ H1 Q else Q (.bl false) H1
theorem pe_one {op} {t : TE} (h : PE X a t) : PE X (.BoolOp op [a] pos) t := fun pins s σ H Q I hw => BoolOp_one (h pins s σ H Q I hw)
theorem pe_and (ha : PE X a ta) (hb : PE X (.BoolOp .And (b :: rest) pos) tb) : PE X (.BoolOp .And (a :: b :: rest) pos) (tAndV ta tb) := by
 intro pins s σ H Q I h
 refine BoolOp_and (thn (ha pins s σ H _ I h) fun v s1 ⟨x, H1, I1, r1, q1⟩ => ?_)
 obtain ⟨c, rfl, q1⟩ := q1
 cases r1
 refine wpAny_truthy_bool ?_
 cases c with
 | true => exact hb pins s1 σ H1 Q I1 q1
 | false => exact ⟨.bl false, H1, I1, rfl, q1⟩
def tIf (t : TT) (ta tb : TE) : TE := fun σ H Q => t σ H fun c H1 => if c = true then ta σ H1 Q else tb σ H1 Q
theorem pe_ifExp {c : Expr} (hc : PT X c tA) (ha : PE X a ta) (hb : PE X b tb) : PE X (.IfExp c a b pos) (tIf tA ta tb) := by
 intro pins s σ H Q I h
 refine wpAny_IfExp (thn (hc pins s σ H _ I h) fun d s1 ⟨H1, I1, q1⟩ => ?_)
 cases d with
 | true => exact ha pins s1 σ H1 Q I1 q1
 | false => exact hb pins s1 σ H1 Q I1 q1
end
end L2
namespace L2
open PySem PySem.Spec PyProof.Rows
def SqL (K : W.Frag) (H : Hp) (a : Addr) (xs : List V) : Prop :=
 Rd H a (.lst xs) ∨
  ∃ (o : Obj) (its : Array Value) (n : Nat), K.lookup a = some o ∧ o.cls = .type "list" ∧ o.dict = none ∧ o.data = .seq its n ∧ its.size ≤ sizeLine ∧ Vals xs its.toList
def SqT (K : W.Frag) (H : Hp) (a : Addr) (xs : List V) : Prop :=
 Rd H a (.tup xs) ∨
  ∃ (o : Obj) (its : Array Value) (n : Nat), K.lookup a = some o ∧ o.cls = .type "tuple" ∧ o.data = .seq its n ∧ its.size ≤ sizeLine ∧ Vals xs its.toList
def absV : Value → Option V
 | .none => some .non
 | .bool b => some (.bl b)
 | .int i _ => some (.int i)
 | .str x _ => some (.str x)
 | .bytes b _ => some (.byt b)
 | .float b _ => some (.flt b)
 | .ref a => some (.ref a)
 | .type n => some (.ty n)
 | _ => none
theorem RelV.abs {x : V} {u : Value} (r : RelV x u) : absV u = some x := by
 cases x with
 | non => cases r; rfl
 | bl _ => cases r; rfl
 | int _ => obtain ⟨t, rfl⟩ := r; rfl
 | str _ => obtain ⟨t, rfl⟩ := r; rfl
 | byt _ => obtain ⟨t, rfl⟩ := r; rfl
 | flt _ => obtain ⟨t, rfl⟩ := r; rfl
 | ref _ => cases r; rfl
 | ty _ => cases r; rfl
theorem RelV.inj {x y : V} {u : Value} (r : RelV x u) (q : RelV y u) : x = y := Option.some.inj (r.abs.symm.trans q.abs)
theorem Vals.inj : ∀ {xs ys : List V} {us : List Value}, Vals xs us → Vals ys us → xs = ys
 | _, _, _, .nil, .nil => rfl
 | _, _, _, .cons r t, .cons r' t' => by rw [r.inj r', Vals.inj t t']
section
variable {X : Cx} {pins : List (Addr × Obj)} {σ : St} {H : Hp} {s : Shared} {a : Addr} {xs ys : List V}
theorem SqL.of {K : W.Frag} (h : H a = some (.lst xs)) : SqL K H a xs := .inl (.inl h)
theorem SqT.of {K : W.Frag} (h : H a = some (.tup xs)) : SqT K H a xs := .inl (.inl h)
theorem Inv.list (I : Inv X pins σ H s) (h : SqL X.K H a xs) : ∃ its : List Value, Vals xs its ∧ PlainL s.heap a its.toArray ∧ xs.length ≤ sizeLine := by
 rcases h with h | ⟨o, its, n, hk, hc, hd, hs, hz, r⟩
 ·obtain ⟨z, its, n, r, e⟩ := h.ok I.hok
  exact ⟨its, r, ⟨_, n, e, rfl, rfl, rfl⟩, z⟩
 ·refine ⟨its.toList, r, ⟨o, n, I.kIn a o hk, hc, hd, by simpa using hs⟩, ?_⟩
  have e := r.length
  simp only [Array.length_toList] at e
  omega
theorem Inv.tuple (I : Inv X pins σ H s) (h : SqT X.K H a xs) : ∃ its : List Value, Vals xs its ∧ IsTup s.heap a its.toArray ∧ xs.length ≤ sizeLine := by
 rcases h with h | ⟨o, its, n, hk, hc, hs, hz, r⟩
 ·obtain ⟨z, its, r, p⟩ := h.ok I.hok
  exact ⟨its, r, p, z⟩
 ·refine ⟨its.toList, r, ⟨o, I.kIn a o hk, hc, n, by simpa using hs⟩, ?_⟩
  have e := r.length
  simp only [Array.length_toList] at e
  omega
theorem Inv.list_inj (I : Inv X pins σ H s) (h : SqL X.K H a xs) (h' : SqL X.K H a ys) : xs = ys := by
 obtain ⟨its, r, ⟨o, n, e, _, _, d⟩, _⟩ := I.list h
 obtain ⟨its', r', ⟨o', n', e', _, _, d'⟩, _⟩ := I.list h'
 rw [e] at e'; cases e'
 rw [d] at d'
 injection d' with d1 _
 have : its = its' := by simpa using congrArg Array.toList d1
 subst this
 exact r.inj r'
theorem Inv.tuple_inj (I : Inv X pins σ H s) (h : SqT X.K H a xs) (h' : SqT X.K H a ys) : xs = ys := by
 obtain ⟨its, r, ⟨o, e, _, n, d⟩, _⟩ := I.tuple h
 obtain ⟨its', r', ⟨o', e', _, n', d'⟩, _⟩ := I.tuple h'
 rw [e] at e'; cases e'
 rw [d] at d'
 injection d' with d1 _
 have : its = its' := by simpa using congrArg Array.toList d1
 subst this
 exact r.inj r'
end
abbrev Cx.wish (X : Cx) (E : Value → Shared → Prop) : Cx := { X with xe := E }
abbrev Cx.nox (X : Cx) : Cx := X.wish fun _ _ => False
theorem Cx.Ok.wish {X : Cx} (ok : X.Ok) (E : Value → Shared → Prop) : (X.wish E).Ok :=
 ⟨ok.mod, ok.kind, ok.glob, ok.blt, ok.above, ok.inj, ok.has, ok.cab, ok.hd, ok.frames, ok.stk, ok.exf, ok.bs, ok.bsz, ok.noex, ok.exfs, ok.funs, ok.frf⟩
theorem Cx.Ok.unwish {X : Cx} {E : Value → Shared → Prop} (ok : (X.wish E).Ok) : X.Ok :=
 ⟨ok.mod, ok.kind, ok.glob, ok.blt, ok.above, ok.inj, ok.has, ok.cab, ok.hd, ok.frames, ok.stk, ok.exf, ok.bs, ok.bsz, ok.noex, ok.exfs, ok.funs, ok.frf⟩
section
variable {X : Cx} {pins : List (Addr × Obj)} {σ : St} {H : Hp} {s : Shared} {E : Value → Shared → Prop}
theorem Inv.wish (I : Inv X pins σ H s) (E : Value → Shared → Prop) : Inv (X.wish E) pins σ H s := ⟨I.ok.wish E, I.os, I.bare, I.base, I.loc, I.cell, I.free, I.freeC, I.pin, I.hok, I.len⟩
theorem Inv.unwish (I : Inv (X.wish E) pins σ H s) : Inv X pins σ H s := ⟨I.ok.unwish, I.os, I.bare, I.base, I.loc, I.cell, I.free, I.freeC, I.pin, I.hok, I.len⟩
theorem SP.unwish {D : Ends} {f : Flow} {s' : Shared} (h : SP (X.wish E) pins D f s') : SP X pins D f s' := by
 cases f with
 | next => obtain ⟨σ', H', I, q⟩ := h; exact ⟨σ', H', I.unwish, q⟩
 | brk => obtain ⟨σ', H', I, q⟩ := h; exact ⟨σ', H', I.unwish, q⟩
 | cont => obtain ⟨σ', H', I, q⟩ := h; exact ⟨σ', H', I.unwish, q⟩
 | ret u => obtain ⟨v, σ', H', I, r, q⟩ := h; exact ⟨v, σ', H', I.unwish, r, q⟩
theorem PSs.nox {st : List Stmt} {t : TS} (h : PSs X.nox st t) : PSs X st t := fun pins s σ H D I hw =>
 wpAny_mono (h pins s σ H D (I.wish _) hw) (fun _ _ q => q.unwish) fun _ _ z => False.elim z
end
section
variable {X : Cx} {st : Stmt} {rest : List Stmt} {t u : TS} {e : Expr} {te : TE} {pos : Pos}
def tNext : TS := fun D σ H => D.nx σ H
def tSeq (t u : TS) : TS := fun D σ H => t { D with nx := u D } σ H
theorem pss_nil : PSs X [] tNext := fun _ _ σ H _ I h => wpAny_execs_nil ⟨σ, H, I, h⟩
theorem pQ (h1 : PS X st t) (h2 : PSs X rest u) : PSs X (st :: rest) (tSeq t u) := by
 intro pins s σ H D I h
 refine wpAny_execs_cons (thn (h1 pins s σ H { D with nx := u D } I h) fun f s1 q => ?_)
 cases f with
 | next =>
  obtain ⟨σ', H', I', q⟩ := q
  exact h2 pins s1 σ' H' D I' q
 | ret v => exact q
 | brk => exact q
 | cont => exact q
theorem pI (h1 : PS X st t) : PSs X [st] t := by
 intro pins s σ H D I h
 refine wpAny_execs_cons (thn (h1 pins s σ H D I h) fun f s1 q => ?_)
 cases f with
 | next => exact wpAny_execs_nil q
 | ret v => exact q
 | brk => exact q
 | cont => exact q
theorem Inv.quiet {pins : List (Addr × Obj)} {σ : St} {H : Hp} {s : Shared} (I : Inv X pins σ H s) : interactive X.env = false := by simp [interactive, I.ok.kind]
def tDrop (te : TE) : TS := fun D σ H => te σ H fun _ H1 => D.nx σ H1
theorem ps_expr (he : PE X e te) (hs : swapsWith e none pos.line X.env = pure false := by rfl) : PS X (.Expr e pos) (tDrop te) := by
 intro pins s σ H D I h
 exact wpAny_Expr_any (thn (he pins s σ H _ I h) fun v s1 ⟨x, H1, I1, r1, q1⟩ => ⟨σ, H1, I1, q1⟩) I.quiet hs
def tRet (te : TE) : TS := fun D σ H => te σ H D.rt
theorem pY (he : PE X e te) : PS X (.Return (some e) pos) (tRet te) := by
 intro pins s σ H D I h
 exact wpAny_Return_some (thn (he pins s σ H _ I h) fun v s1 ⟨x, H1, I1, r1, q1⟩ => ⟨x, σ, H1, I1, r1, q1⟩)
def tRetN : TS := fun D _ H => D.rt .non H
theorem ps_retN : PS X (.Return none pos) tRetN := fun _ _ σ H _ I h => wpAny_Return_none ⟨.non, σ, H, I, rfl, h⟩
def tIfS (c : TT) (t u : TS) : TS := fun D σ H => c σ H fun b H1 => if b = true then t D σ H1 else u D σ H1
theorem ps_if {c : Expr} {a b : List Stmt} {tc : TT} (hc : PT X c tc) (ha : PSs X a t) (hb : PSs X b u) : PS X (.If c a b pos) (tIfS tc t u) := by
 intro pins s σ H D I h
 refine wpAny_If (thn (hc pins s σ H _ I h) fun d s1 ⟨H1, I1, q1⟩ => ?_)
 cases d with
 | true => exact ha pins s1 σ H1 D I1 q1
 | false => exact hb pins s1 σ H1 D I1 q1
end
abbrev TG := V → St → Hp → (St → Hp → Prop) → Prop
def PG (X : Cx) (target : Expr) (t : TG) : Prop :=
 ∀ (pins : List (Addr × Obj)) (s : Shared) (σ : St) (H : Hp) (v : V) (u : Value) (Q : St → Hp → Prop), Inv X pins σ H s → RelV v u → t v σ H Q →
  wpAny (model X.prog X.w) X.A (assign target X.env u) (fun _ s' => ∃ σ' H', Inv X pins σ' H' s' ∧ Q σ' H') X.xe s
abbrev TIp := V → V → Hp → VK → Prop
def PIp (X : Cx) (op : Operator) (t : TIp) : Prop :=
 ∀ (pins : List (Addr × Obj)) (s : Shared) (σ : St) (H : Hp) (x y : V) (v u : Value) (Q : VK), Inv X pins σ H s → RelV x v → RelV y u → t x y H Q →
  wpAny (model X.prog X.w) X.A (inplaceOp op v u) (EP X pins σ Q) X.xe s
section
variable {X : Cx} {pos : Pos}
def gName (i : Nat) : TG := fun v σ H Q => Q (σ.set i (some v)) H
theorem pg_name {i : Nat} {x : Str} (hN : X.N.Nodup) (hi : X.N[i]? = some x) (hx : Loc X.env.scope x) (hf : X.fn x = true ∨ X.env.scope.names.lookup x = some .local := by first | exact .inl rfl | exact .inr rfl | assumption) : PG X (.Name x pos) (gName i) := by
 intro pins s σ H v u Q I r h
 exact wpAny_assign_Name (store_ok I hN hi hx r (fun s' I' => ⟨_, H, I', h⟩) hf)
def tAsg (te : TE) (g : TG) : TS := fun D σ H => te σ H fun x H1 => g x σ H1 D.nx
theorem ps_set {i : Nat} {x : Str} {e : Expr} {te : TE} {pos' : Pos} (hN : X.N.Nodup) (hi : X.N[i]? = some x) (hx : Loc X.env.scope x) (he : PE X e te) (hs : swapsWith e (some (.Name x pos')) pos.line X.env = pure false := by rfl) (hf : X.fn x = true ∨ X.env.scope.names.lookup x = some .local := by first | exact .inl rfl | exact .inr rfl | assumption) :
  PS X (.Assign [.Name x pos'] e pos) (tAsg te (gName i)) := by
 intro pins s σ H D I h
 refine wpAny_Assign_Name (thn (he pins s σ H _ I h) fun v s1 ⟨y, H1, I1, r1, q1⟩ => ?_) hs
 exact store_ok I1 hN hi hx r1 (fun s2 I2 => ⟨_, H1, I2, q1⟩) hf
def tAug (i : Nat) (te : TE) (ti : TIp) : TS := fun D σ H => ∃ x, σ[i]? = some (some x) ∧ te σ H fun y H1 => ti x y H1 fun z H2 => D.nx (σ.set i (some z)) H2
theorem ps_aug {i : Nat} {x : Str} {e : Expr} {te : TE} {op : Operator} {ti : TIp} {pos' : Pos} (hN : X.N.Nodup) (hi : X.N[i]? = some x) (hx : Loc X.env.scope x) (he : PE X e te) (ho : PIp X op ti) (hf : X.fn x = true ∨ X.env.scope.names.lookup x = some .local := by first | exact .inl rfl | exact .inr rfl | assumption) :
  PS X (.AugAssign (.Name x pos') op e pos) (tAug i te ti) := by
 intro pins s σ H D I h
 obtain ⟨v, e1, h⟩ := h
 obtain ⟨m, hn, hl⟩ := I.loc
 have vis : Vis X.env.scope x := by rcases hx with k | k; exact .inl k; exact .inr (.inl k)
 obtain ⟨u, r, l⟩ := hl i x v hi e1 vis
 refine wpAny_AugAssign_Name ?_
 have go : wpAny (model X.prog X.w) X.A (eval e X.env) (fun w s₂ => wpAny (model X.prog X.w) X.A (inplaceOp op u w) (fun r s₃ => wpAny (model X.prog X.w) X.A (storeName X.env x r) (fun _ => SP X pins D .next) X.xe s₃) X.xe s₂) X.xe s := by
  refine thn (he pins s σ H _ I h) fun w s1 ⟨y, H1, I1, r1, q1⟩ => ?_
  refine thn (ho pins s1 σ H1 v y u w _ I1 r r1 q1) fun z s2 ⟨zv, H2, I2, r2, q2⟩ => ?_
  exact store_ok I2 hN hi hx r2 (fun s3 I3 => ⟨_, H2, I3, q2⟩) hf
 rcases l with ⟨hk, hm⟩ | ⟨hk, c, hc, hcell⟩
 ·exact wpAny_loadName_local I.ok.kind hk hn hm go
 ·rcases hk with hk | hk
  ·exact wpAny_loadName_cell I.ok.kind hk hc hcell go
  ·rcases hx with k | k
   ·have : X.env.scope.names.lookup x = some .free := hk
    rw [k] at this; cases this
   ·have : X.env.scope.names.lookup x = some .free := hk
    rw [k] at this; cases this
def ipI (f : Int → Int → Int) : TIp := fun x y H Q => ∃ i j, x = .int i ∧ y = .int j ∧ Q (.int (f i j)) H
theorem ip_add : PIp X .Add (ipI fun i j => i + j) := by
 intro pins s σ H x y v u Q I r1 r2 h
 obtain ⟨i, j, e1, e2, q⟩ := h
 subst e1; subst e2
 obtain ⟨t, rfl⟩ := r1
 obtain ⟨t', rfl⟩ := r2
 exact iadd_int ⟨.int _, H, I.tok _, ⟨_, rfl⟩, q⟩
end
section
variable {X : Cx} {pos : Pos}
def tWhile (c : TT) (tb : TS) : TS := fun D σ H => ∃ W : Nat → St → Hp → Prop, (∃ m, W m σ H) ∧ ∀ m σ H, W m σ H →
 c σ H fun b H1 => if b = true then ∃ N : St → Hp → Prop, (∀ σ' H', N σ' H' → ∃ m', m' < m ∧ W m' σ' H') ∧ tb { D with nx := N, ct := N, bk := D.nx } σ H1 else D.nx σ H1
theorem ps_while {c : Expr} {body : List Stmt} {tc : TT} {tb : TS} (hp : PassesOwn (model X.prog X.w) X.A X.env X.xe) (hc : PT X c tc) (hb : PSs X body tb) : PS X (.While c body [] pos) (tWhile tc tb) := by
 intro pins s σ H D I h
 obtain ⟨W, ⟨m0, w0⟩, turn⟩ := h
 refine wpAny_While (codeAny_whileLoop (fun n s' => ∃ σ' H', Inv X pins σ' H' s' ∧ W n σ' H') ?_ m0 ⟨σ, H, I, w0⟩)
 rintro n s1 ⟨σ1, H1, I1, w1⟩
 refine wpAny_passesOwn hp (thn (hc pins s1 σ1 H1 _ I1 (turn n σ1 H1 w1)) fun b s2 ⟨H2, I2, q2⟩ => ?_)
 cases b with
 | true =>
  obtain ⟨N, hN, q2⟩ := q2
  rw [if_pos rfl]
  refine wpAny_passesOwn hp (thn (hb pins s2 σ1 H2 _ I2 q2) fun f s3 q3 => ?_)
  cases f with
  | next =>
   obtain ⟨σ3, H3, I3, n3⟩ := q3
   obtain ⟨m', hm, w3⟩ := hN σ3 H3 n3
   exact ⟨m', hm, σ3, H3, I3, w3⟩
  | cont =>
   obtain ⟨σ3, H3, I3, n3⟩ := q3
   obtain ⟨m', hm, w3⟩ := hN σ3 H3 n3
   exact ⟨m', hm, σ3, H3, I3, w3⟩
  | brk => exact q3
  | ret v => exact q3
 | false =>
  rw [if_neg Bool.false_ne_true]
  exact wpAny_execs_nil ⟨σ1, H2, I2, q2⟩
end
structure It where
 go : Nat → Hp → Prop
 yld : Nat → Hp → V → Hp → Prop
 stop : Nat → Hp → Prop
def FpOk (X : Cx) (pins : List (Addr × Obj)) (H : Hp) (b : Addr) : Prop :=
 H b = none ∧ b ≠ X.env.locals ∧ b ∉ X.fs ∧ (b ∈ X.ex ∨ X.s_0.heap.objs.size ≤ b) ∧ (∀ x c, X.env.cells.lookup x = some c → c ≠ b) ∧ ∀ p ∈ X.pn ++ pins, p.1 ≠ b
theorem Inv.fpOk {X : Cx} {pins : List (Addr × Obj)} {σ : St} {H H' : Hp} {s : Shared} {b : Addr} (I : Inv X pins σ H s) (hb : s.heap.objs.size ≤ b) (hn : H' b = none) : FpOk X pins H' b := by
 refine ⟨hn, Nat.ne_of_gt (Nat.lt_of_lt_of_le I.lt hb), I.nofs hb, .inr (Nat.le_trans I.sz hb), fun x c e z => ?_, fun p hp z => ?_⟩
 ·obtain ⟨v, q⟩ := I.cell x c e
  exact absurd (Nat.lt_of_lt_of_le q.lt (by rw [z]; exact hb)) (Nat.lt_irrefl _)
 ·exact absurd (Nat.lt_of_lt_of_le (Heap.lt_size (I.pin p hp).1) (by rw [z]; exact hb)) (Nat.lt_irrefl _)
structure Turn (P : Program) (w : World) (K : W.Frag) (tg : Expr) (J : It) (fp : List Addr) (it : Addr) (tn : Nat → Heap → Prop) : Prop where
 mem : it ∈ fp
 obj : ∀ i h, tn i h → ∀ b ∈ fp, ∃ o, h.get? b = some o ∧ ∀ v, o.data ≠ .cell v
 keep : ∀ i h h', tn i h → (∀ b ∈ fp, ∀ o, h.get? b = some o → h'.get? b = some o) → tn i h'
 item : ∀ (X : Cx), X.prog = P → X.w = w → X.K = K → X.calm = true → ∀ (i : Nat) (pins : List (Addr × Obj)) (s : Shared) (σ : St) (H : Hp) (E : Value → Shared → Prop), Inv X pins σ H s → (∀ b ∈ fp, FpOk X pins H b) → tn i s.heap → J.go i H →
  wpAny (model P w) X.A (pyNext (.ref it)) (fun r s1 => ∃ u, r = some u ∧
   wpAny (model P w) X.A (letOwnedTupleGo tg (.ref it) u) (fun _ s2 => ∃ x H', Inv X pins σ H' s2 ∧ RelV x u ∧ J.yld i H x H' ∧ tn (i + 1) s2.heap ∧ ∀ b ∈ fp, H' b = none) E s1) E s
 done : ∀ (X : Cx), X.prog = P → X.w = w → X.K = K → X.calm = true → ∀ (i : Nat) (pins : List (Addr × Obj)) (s : Shared) (σ : St) (H : Hp) (E : Value → Shared → Prop), Inv X pins σ H s → (∀ b ∈ fp, FpOk X pins H b) → tn i s.heap → J.stop i H →
  wpAny (model P w) X.A (pyNext (.ref it)) (fun r s1 => r = none ∧ Inv X pins σ H s1) E s
 self : ∀ (A : Around) (i : Nat) (s : Shared) (Q : Value → Shared → Prop) (E : Value → Shared → Prop), tn i s.heap → Q (.ref it) s → wpAny (model P w) A (pyIter (.ref it)) Q E s
abbrev TI := St → Hp → (It → Hp → Prop) → Prop
def PIE (X : Cx) (pins : List (Addr × Obj)) (σ : St) (tg : Expr) (R : It → Hp → Prop) (itv : Value) (s2 : Shared) : Prop :=
 ∃ (it : Addr) (fp : List Addr) (tn : Nat → Heap → Prop) (J : It) (H' : Hp), itv = .ref it ∧ Inv X pins σ H' s2 ∧ Turn X.prog X.w X.K tg J fp it tn ∧ tn 0 s2.heap ∧ (∀ b ∈ fp, FpOk X pins H' b) ∧ R J H'
def PI (X : Cx) (tg iter : Expr) (wi : TI) : Prop :=
 ∀ (pins : List (Addr × Obj)) (s : Shared) (σ : St) (H : Hp) (R : It → Hp → Prop), Inv X pins σ H s → wi σ H R →
  wpAny (model X.prog X.w) X.A (eval iter X.env) (fun v s1 => wpAny (model X.prog X.w) X.A (pyIter v) (PIE X pins σ tg R) X.xe s1) X.xe s
theorem go_of {M : Model} {A : Around} {E : Value → Shared → Prop} {s : Shared} {tg : Expr} {it : Addr} {u : Value} {o : Obj} {n : String} {vs : Array Value} {Q : Unit → Shared → Prop} (ho : s.heap.get? it = some o) (hc : o.cls = .type n) (hd : o.data = .fields vs)
  (hn : ["enumerate", "zip", "dict_itemiterator", "dict_reverseitemiterator", "odict_iterator", "itertools.zip_longest", "itertools.pairwise"].contains n = false) (hQ : Q () s) : wpAny M A (letOwnedTupleGo tg (.ref it) u) Q E s := by
 unfold letOwnedTupleGo
 cases tg <;> first
  | exact wpAny_pure hQ
  | (cases u <;> first
    | exact wpAny_pure hQ
    | (
     refine wpAny_bind (wpAny_load ho ?_)
     rw [hc, hd]
     show wpAny M A (if (["enumerate", "zip", "dict_itemiterator", "dict_reverseitemiterator", "odict_iterator", "itertools.zip_longest", "itertools.pairwise"].contains n && vs[0]? == some (rawInt _)) = true then _ else _) Q E s
     rw [if_neg (by intro h; rw [hn, Bool.false_and] at h; cases h)]
     exact wpAny_pure hQ))
def Itl (K : W.Frag) (a : Addr) : It :=
 ⟨fun i H => ∃ xs x, SqL K H a xs ∧ xs[i]? = some x, fun i H x H' => H' = H ∧ ∀ xs, SqL K H a xs → xs[i]? = some x, fun i H => ∃ xs, SqL K H a xs ∧ xs.length ≤ i⟩
def Itt (K : W.Frag) (a : Addr) : It :=
 ⟨fun i H => ∃ xs x, SqT K H a xs ∧ xs[i]? = some x, fun i H x H' => H' = H ∧ ∀ xs, SqT K H a xs → xs[i]? = some x, fun i H => ∃ xs, SqT K H a xs ∧ xs.length ≤ i⟩
def Itr (lo : Int) (n : Nat) : It := ⟨fun i _ => i < n, fun i H x H' => H' = H ∧ x = .int (lo + i), fun i _ => n ≤ i⟩
theorem turn_list {P : Program} {w : World} {K : W.Frag} {tg : Expr} (a it : Addr) : Turn P w K tg (Itl K a) [it] it (fun i h => h.IsListIter it a i) where
 mem := by simp
 obj := fun i h st b hb => by
  have e : b = it := by simpa using hb
  subst e
  obtain ⟨o, e, c, d⟩ := st
  exact ⟨o, e, fun v z => by rw [d] at z; cases z⟩
 keep := fun i h h' st k => st.at fun o e => k it (by simp) o e
 item := by
  intro X hP hw hK hc i pins s σ H E I hf st hg
  subst hP hw hK
  obtain ⟨xs, x, hq, hx⟩ := hg
  obtain ⟨its, rv, p, hz⟩ := I.list hq
  obtain ⟨u, hu, ru⟩ := rv.get hx
  obtain ⟨f0, f1, f2, f3, f4, f5⟩ := hf it (by simp)
  refine wpAny_pyNext_list_item st p.isList (x := u) (by simpa using hu) fun h' st' sb => ?_
  have I1 : Inv X pins σ H { s with heap := h' } := I.turned (t' := s.toks) (fun b o hb e => (sb.2 b hb).trans e) f0 f1 f3 f4 f5
  obtain ⟨o, e, c, d⟩ := id st'
  exact ⟨u, rfl, go_of (s := { s with heap := h' }) e c d (by decide) ⟨x, H, I1, ru, ⟨rfl, fun ys hy => by rw [I.list_inj hy hq]; exact hx⟩, st', fun b hb => (hf b hb).1⟩⟩
 done := by
  intro X hP hw hK hc i pins s σ H E I hf st hg
  subst hP hw hK
  obtain ⟨xs, hq, hx⟩ := hg
  obtain ⟨its, rv, p, hz⟩ := I.list hq
  obtain ⟨f0, f1, f2, f3, f4, f5⟩ := hf it (by simp)
  have hl := rv.length
  exact wpAny_pyNext_list_end (I.ok.hd hc) st p.isList (by simp; omega) fun h' eb => ⟨rfl, I.turned (t' := s.toks) (fun b o hb e => eb b o hb e) f0 f1 f3 f4 f5⟩
 self := fun _ _ _ _ _ st h => wpAny_pyIter_listiter st h
theorem turn_tuple {P : Program} {w : World} {K : W.Frag} {tg : Expr} (a it : Addr) : Turn P w K tg (Itt K a) [it] it (fun i h => h.IsTupleIter it a i) where
 mem := by simp
 obj := fun i h st b hb => by
  have e : b = it := by simpa using hb
  subst e
  obtain ⟨o, e, c, d⟩ := st
  exact ⟨o, e, fun v z => by rw [d] at z; cases z⟩
 keep := fun i h h' st k => st.at fun o e => k it (by simp) o e
 item := by
  intro X hP hw hK hc i pins s σ H E I hf st hg
  subst hP hw hK
  obtain ⟨xs, x, hq, hx⟩ := hg
  obtain ⟨its, rv, p, hz⟩ := I.tuple hq
  obtain ⟨u, hu, ru⟩ := rv.get hx
  obtain ⟨f0, f1, f2, f3, f4, f5⟩ := hf it (by simp)
  refine wpAny_pyNext_tuple_item st (show s.heap.IsTuple a its.toArray from p) (x := u) (by simpa using hu) fun h' st' sb => ?_
  have I1 : Inv X pins σ H { s with heap := h' } := I.turned (t' := s.toks) (fun b o hb e => (sb.2 b hb).trans e) f0 f1 f3 f4 f5
  obtain ⟨o, e, c, d⟩ := id st'
  exact ⟨u, rfl, go_of (s := { s with heap := h' }) e c d (by decide) ⟨x, H, I1, ru, ⟨rfl, fun ys hy => by rw [I.tuple_inj hy hq]; exact hx⟩, st', fun b hb => (hf b hb).1⟩⟩
 done := by
  intro X hP hw hK hc i pins s σ H E I hf st hg
  subst hP hw hK
  obtain ⟨xs, hq, hx⟩ := hg
  obtain ⟨its, rv, p, hz⟩ := I.tuple hq
  obtain ⟨f0, f1, f2, f3, f4, f5⟩ := hf it (by simp)
  have hl := rv.length
  exact wpAny_pyNext_tuple_end (I.ok.hd hc) st (show s.heap.IsTuple a its.toArray from p) (by simp; omega) fun h' eb => ⟨rfl, I.turned (t' := s.toks) (fun b o hb e => eb b o hb e) f0 f1 f3 f4 f5⟩
 self := fun _ _ _ _ _ st h => wpAny_pyIter_tupleiter st h
theorem turn_range {P : Program} {w : World} {K : W.Frag} {tg : Expr} (it : Addr) (lo : Int) (n : Nat) : Turn P w K tg (Itr lo n) [it] it (fun i h => IsRangeIter h it (lo + (i : Nat) * 1) ((n : Int) - (i : Nat)) 1) where
 mem := by simp
 obj := fun i h st b hb => by
  have e : b = it := by simpa using hb
  subst e
  exact ⟨_, st, fun v z => by
   have z' : Data.fields _ = Data.cell v := z
   cases z'⟩
 keep := fun i h h' st k => k it (by simp) _ st
 item := by
  intro X hP hw hK hc i pins s σ H E I hf st hg
  subst hP hw hK
  obtain ⟨f0, f1, f2, f3, f4, f5⟩ := hf it (by simp)
  have W := Walks.range (prog := X.prog) (w := X.w) (I.ok.hd hc) it lo 1 n
  refine W.item i s _ _ hg st fun v h' tk hv st' kk => ?_
  obtain ⟨t, rfl⟩ := hv
  have I1 : Inv X pins σ H { s with heap := h', toks := tk } := I.turned (fun b o hb e => kk b o (by simpa using hb) e) f0 f1 f3 f4 f5
  refine ⟨_, rfl, go_of (s := { s with heap := h', toks := tk }) (n := "range_iterator") st' rfl rfl (by decide) ⟨.int (lo + i), H, I1, ⟨t, ?_⟩, ⟨rfl, rfl⟩, st', fun b hb => (hf b hb).1⟩⟩
  rw [Int.mul_one]
 done := by
  intro X hP hw hK hc i pins s σ H E I hf st hg
  subst hP hw hK
  obtain ⟨f0, f1, f2, f3, f4, f5⟩ := hf it (by simp)
  exact wpAny_pyNext_range_end (I.ok.hd hc) st (by have : n ≤ i := hg; omega) fun h' eb => ⟨rfl, I.turned (t' := s.toks) (fun b o hb e => eb b o hb e) f0 f1 f3 f4 f5⟩
 self := fun _ _ _ _ _ st h => wpAny_pyIter_rangeiter st h
end L2
namespace L2
open PySem PySem.Spec PyProof.Rows
section
variable {X : Cx} {tg : Expr}
def iList (K : W.Frag) (tl : TE) : TI := fun σ H R => tl σ H fun x H1 => ∃ a, x = .ref a ∧ (∃ xs, SqL K H1 a xs) ∧ R (Itl K a) H1
def iTup (K : W.Frag) (tl : TE) : TI := fun σ H R => tl σ H fun x H1 => ∃ a, x = .ref a ∧ (∃ xs, SqT K H1 a xs) ∧ R (Itt K a) H1
theorem pi_list {l : Expr} {tl : TE} (hl : PE X l tl) : PI X tg l (iList X.K tl) := by
 intro pins s σ H R I h
 refine thn (hl pins s σ H _ I h) fun v s1 ⟨x, H1, I1, r1, q1⟩ => ?_
 obtain ⟨a, e, ⟨xs, hq⟩, q⟩ := q1
 subst e
 cases r1
 obtain ⟨its, rv, p, hz⟩ := I1.list hq
 refine wpAny_pyIter_list p.isList ?_
 refine ⟨s1.heap.objs.size, [s1.heap.objs.size], _, _, H1, rfl, I1.kept (t' := s1.toks) fun b o e => Heap.get?_push_of_some _ e, turn_list a _, ⟨_, Heap.get?_push_size _ rfl, rfl, rfl⟩, fun b hb => ?_, q⟩
 have e : b = s1.heap.objs.size := by simpa using hb
 subst e
 exact I1.fpOk (Nat.le_refl _) (I1.hok.fresh (Nat.le_refl _))
theorem pi_tup {l : Expr} {tl : TE} (hl : PE X l tl) : PI X tg l (iTup X.K tl) := by
 intro pins s σ H R I h
 refine thn (hl pins s σ H _ I h) fun v s1 ⟨x, H1, I1, r1, q1⟩ => ?_
 obtain ⟨a, e, ⟨xs, hq⟩, q⟩ := q1
 subst e
 cases r1
 obtain ⟨its, rv, p, hz⟩ := I1.tuple hq
 refine wpAny_pyIter_tuple (show s1.heap.IsTuple a its.toArray from p) ?_
 refine ⟨s1.heap.objs.size, [s1.heap.objs.size], _, _, H1, rfl, I1.kept (t' := s1.toks) fun b o e => Heap.get?_push_of_some _ e, turn_tuple a _, ⟨_, Heap.get?_push_size _ rfl, rfl, rfl⟩, fun b hb => ?_, q⟩
 have e : b = s1.heap.objs.size := by simpa using hb
 subst e
 exact I1.fpOk (Nat.le_refl _) (I1.hok.fresh (Nat.le_refl _))
theorem range_it {pins : List (Addr × Obj)} {σ : St} {H : Hp} {s : Shared} {R : It → Hp → Prop} {E : Value → Shared → Prop} {lo hi : Int} {t u v : Tok} {tk : Nat} (I : Inv X pins σ H s) (h1 : -(2 ^ 62) ≤ lo) (h2 : lo < 2 ^ 62) (h3 : -(2 ^ 62) ≤ hi) (h4 : hi < 2 ^ 62)
  (q : R (Itr lo (hi - lo).toNat) H) : wpAny (model X.prog X.w) X.A (pyIter (.ref s.heap.objs.size)) (PIE X pins σ tg R) E { s with heap := s.heap.push { cls := .type "range", data := .fields #[.int lo t, .int hi u, .int 1 v] }, toks := tk } := by
 refine wpAny_pyIter_range (IsRange.new ..) (small_one h1 h2 h3 h4) ?_
 have I1 : Inv X pins σ H { s with heap := s.heap.push { cls := .type "range", data := .fields #[.int lo t, .int hi u, .int 1 v] }, toks := tk } := I.kept fun b o e => Heap.get?_push_of_some _ e
 refine ⟨(s.heap.push { cls := .type "range", data := .fields #[.int lo t, .int hi u, .int 1 v] }).objs.size, [(s.heap.push { cls := .type "range", data := .fields #[.int lo t, .int hi u, .int 1 v] }).objs.size], _, _, H, rfl,
  I1.kept (t' := tk) fun b o e => Heap.get?_push_of_some _ e, turn_range _ lo (hi - lo).toNat, ?_, fun b hb => ?_, q⟩
 ·have e1 : lo + ((0 : Nat) : Int) * 1 = lo := by simp
  have e2 : (((hi - lo).toNat : Nat) : Int) - ((0 : Nat) : Int) = Builtin.Range.rangeSize lo hi 1 := by rw [rangeSize_one]; split <;> omega
  show IsRangeIter _ _ (lo + ((0 : Nat) : Int) * 1) ((((hi - lo).toNat : Nat) : Int) - ((0 : Nat) : Int)) 1
  rw [e1, e2]
  exact Heap.get?_push_size _ rfl
 ·have e : b = (s.heap.push { cls := .type "range", data := .fields #[.int lo t, .int hi u, .int 1 v] }).objs.size := by simpa using hb
  subst e
  exact I1.fpOk (Nat.le_refl _) (I1.hok.fresh (Nat.le_refl _))
def iRng1 (ta : TA) : TI := fun σ H R => ta σ H fun vs H1 => ∃ j : Int, vs = [.int j] ∧ -(2 ^ 62) ≤ j ∧ j < 2 ^ 62 ∧ R (Itr 0 j.toNat) H1
def iRng2 (ta : TA) : TI := fun σ H R => ta σ H fun vs H1 => ∃ i j : Int, vs = [.int i, .int j] ∧ (-(2 ^ 62) ≤ i ∧ i < 2 ^ 62 ∧ -(2 ^ 62) ≤ j ∧ j < 2 ^ 62) ∧ R (Itr i (j - i).toNat) H1
theorem pi_range1 {a : Expr} {ta : TA} {p pos : Pos} (hg : Gl X "range") (hm : X.mg "range" = none) (ha : PA X [a] ta) (hs : starEach [a] X.env = [(false, eval a X.env)] := by rfl) : PI X tg (.Call (.Name "range" p) [a] [] pos) (iRng1 ta) := by
 intro pins s σ H R I h
 refine Call_ (ld_blt I hg hm boot_range (PyProof.Rows.callWith_type1 (thn (ha pos pins s σ H _ I h) fun us s1 ⟨vs, H1, I1, r1, q1⟩ => ?_) hs rfl))
 obtain ⟨j, e, q1, q2, q⟩ := q1
 subst e
 cases r1 with
 | cons r rr =>
  cases rr
  obtain ⟨t, rfl⟩ := r
  exact call_range_1 (range_it I1 (by omega) (by omega) q1 q2 (by simpa using q))
theorem pi_range2 {a b : Expr} {ta : TA} {p pos : Pos} (hg : Gl X "range") (hm : X.mg "range" = none) (ha : PA X [a, b] ta) (hs : starEach [a, b] X.env = [(false, eval a X.env), (false, eval b X.env)] := by rfl) (hs2 : starEach [b] X.env = [(false, eval b X.env)] := by rfl) :
  PI X tg (.Call (.Name "range" p) [a, b] [] pos) (iRng2 ta) := by
 intro pins s σ H R I h
 refine Call_ (ld_blt I hg hm boot_range (PyProof.Rows.callWith_type1 (thn (ha pos pins s σ H _ I h) fun us s1 ⟨vs, H1, I1, r1, q1⟩ => ?_) (by rw [hs, hs2]) (by rw [hs2]; rfl)))
 obtain ⟨i, j, e, ⟨q1, q2, q3, q4⟩, q⟩ := q1
 subst e
 cases r1 with
 | cons r rr =>
  cases rr with
  | cons r' rr =>
   cases rr
   obtain ⟨t, rfl⟩ := r
   obtain ⟨t', rfl⟩ := r'
   exact call_range_2 (range_it I1 q1 q2 q3 q4 q)
def tFor (wi : TI) (g : TG) (tb : TS) : TS := fun D σ H => wi σ H fun J H1 => ∃ W : Nat → Nat → St → Hp → Prop, (∃ m, W 0 m σ H1) ∧ ∀ i m σ H, W i m σ H →
 (J.stop i H ∧ D.nx σ H) ∨ (J.go i H ∧ ∃ N : St → Hp → Prop, (∀ σ' H', N σ' H' → ∃ m', m' < m ∧ W (i + 1) m' σ' H') ∧ ∀ x H', J.yld i H x H' → g x σ H' fun σ2 H2 => tb { D with nx := N, ct := N, bk := D.nx } σ2 H2)
def pinsAt (fp : List Addr) (h : Heap) : List (Addr × Obj) := fp.filterMap fun b => (h.get? b).map fun o => (b, o)
theorem mem_pinsAt {fp : List Addr} {h : Heap} {b : Addr} {o : Obj} (hb : b ∈ fp) (e : h.get? b = some o) : (b, o) ∈ pinsAt fp h := List.mem_filterMap.mpr ⟨b, hb, by rw [e]; rfl⟩
theorem of_pinsAt {fp : List Addr} {h : Heap} {p : Addr × Obj} (hp : p ∈ pinsAt fp h) : p.1 ∈ fp ∧ h.get? p.1 = some p.2 := by
 obtain ⟨b, hb, e⟩ := List.mem_filterMap.mp hp
 cases q : h.get? b with
 | none => rw [q] at e; cases e
 | some o =>
  rw [q] at e
  have e' : (b, o) = p := Option.some.inj e
  subst e'
  exact ⟨hb, q⟩
theorem Inv.pinned {pins : List (Addr × Obj)} {σ : St} {H : Hp} {s : Shared} {fp : List Addr} (I : Inv X pins σ H s) (hf : ∀ b ∈ fp, FpOk X pins H b) (ho : ∀ b ∈ fp, ∃ o, s.heap.get? b = some o ∧ ∀ v, o.data ≠ .cell v) : Inv X (pins ++ pinsAt fp s.heap) σ H s :=
 I.pins_of fun p hp => (List.mem_append.mp hp).elim (fun z => I.pin p (List.mem_append_right _ z)) fun z => by
  obtain ⟨hb, e⟩ := of_pinsAt z
  obtain ⟨f0, f1, f2, _⟩ := hf p.1 hb
  obtain ⟨o, e', d⟩ := ho p.1 hb
  rw [e] at e'; cases e'
  exact ⟨e, f0, f1, f2, d⟩
theorem Inv.unpinned {pins pl : List (Addr × Obj)} {σ : St} {H : Hp} {s : Shared} (I : Inv X (pins ++ pl) σ H s) : Inv X pins σ H s := I.pins_of fun p hp => I.pin p (List.mem_append_right _ (List.mem_append_left _ hp))
theorem ps_for {iter : Expr} {body : List Stmt} {wi : TI} {g : TG} {tb : TS} {pos : Pos} (hp : PassesOwn (model X.prog X.w) X.A X.env X.xe) (hc : X.calm = true) (hi : PI X tg iter wi) (hg : PG X tg g) (hb : PSs X body tb)
  (hs : ∀ x, foldedSetIterable iter X.env x = pure x := by intro _; rfl) : PS X (.For tg iter body [] pos) (tFor wi g tb) := by
 intro pins s σ H D I h
 refine wpAny_For (thn (hi pins s σ H _ I h) fun v s1 h1 => thn h1 fun itv s2 h2 => ?_) hs
 obtain ⟨it, fp, tn, J, H2, e, I2, T, st2, f2, W, ⟨m0, w0⟩, turn⟩ := h2
 subst e
 have stat : ∀ {H' : Hp}, (∀ b ∈ fp, H' b = none) → ∀ b ∈ fp, FpOk X pins H' b := fun hn b hb => ⟨hn b hb, (f2 b hb).2⟩
 refine codeAny_forLoop_any (fun n s' => ∃ i σ' H', Inv X pins σ' H' s' ∧ tn i s'.heap ∧ (∀ b ∈ fp, H' b = none) ∧ W i n σ' H') ?_ m0 ⟨0, σ, H2, I2, st2, fun b hb => (f2 b hb).1, w0⟩
 rintro n s3 ⟨i, σ3, H3, I3, st3, fr3, w3⟩
 rcases turn i n σ3 H3 w3 with ⟨stop, qn⟩ | ⟨go, N, hN, step⟩
 ·refine wpAny_passesOwn hp (thn (T.done X rfl rfl rfl hc i pins s3 σ3 H3 X.xe I3 (stat fr3) st3 stop) fun r s4 ⟨hr, I4⟩ => ?_)
  subst hr
  exact wpAny_execs_nil ⟨σ3, H3, I4, qn⟩
 ·refine wpAny_passesOwn hp (thn (T.item X rfl rfl rfl hc i pins s3 σ3 H3 X.xe I3 (stat fr3) st3 go) fun r s4 ⟨u, hr, h4⟩ => ?_)
  subst hr
  refine wpAny_passesOwn hp (thn h4 fun _ s5 ⟨x, H5, I5, r5, y5, st5, fr5⟩ => ?_)
  have I5' := I5.pinned (stat fr5) (T.obj _ _ st5)
  refine wpAny_passesOwn hp (thn (hg _ s5 σ3 H5 x u _ I5' r5 (step x H5 y5)) fun _ s6 ⟨σ6, H6, I6, q6⟩ => ?_)
  refine wpAny_passesOwn hp (thn (hb _ s6 σ6 H6 _ I6 q6) fun f s7 q7 => ?_)
  have again : ∀ {σ7 : St} {H7 : Hp}, Inv X (pins ++ pinsAt fp s5.heap) σ7 H7 s7 → N σ7 H7 → ∃ m, m < n ∧ ∃ i σ' H', Inv X pins σ' H' s7 ∧ tn i s7.heap ∧ (∀ b ∈ fp, H' b = none) ∧ W i m σ' H' := fun {σ7 H7} I7 n7 => by
   obtain ⟨m', hm, w7⟩ := hN σ7 H7 n7
   refine ⟨m', hm, i + 1, σ7, H7, I7.unpinned, T.keep _ _ _ st5 fun b hb o e => (I7.pin (b, o) (List.mem_append_right _ (List.mem_append_right _ (mem_pinsAt hb e)))).1, fun b hb => ?_, w7⟩
   obtain ⟨o, e, d⟩ := T.obj _ _ st5 b hb
   exact (I7.pin (b, o) (List.mem_append_right _ (List.mem_append_right _ (mem_pinsAt hb e)))).2.1
  cases f with
  | next => obtain ⟨σ7, H7, I7, n7⟩ := q7; exact again I7 n7
  | cont => obtain ⟨σ7, H7, I7, n7⟩ := q7; exact again I7 n7
  | brk => obtain ⟨σ7, H7, I7, q7⟩ := q7; exact ⟨σ7, H7, I7.unpinned, q7⟩
  | ret v => obtain ⟨x7, σ7, H7, I7, r7, q7⟩ := q7; exact ⟨x7, σ7, H7, I7.unpinned, r7, q7⟩
end
theorem for_list {K : W.Frag} {a : Addr} {xs : List V} {g : TG} {tb : TS} {D : Ends} {σ : St} {H : Hp} (Pv : Nat → St → Hp → Prop) (h0 : Pv 0 σ H) (hl : ∀ i σ H, i ≤ xs.length → Pv i σ H → SqL K H a xs)
  (hs : ∀ i x σ H, xs[i]? = some x → Pv i σ H → g x σ H fun σ2 H2 => tb { D with nx := Pv (i + 1), ct := Pv (i + 1), bk := D.nx } σ2 H2) (hd : ∀ σ H, Pv xs.length σ H → D.nx σ H) :
  ∃ W : Nat → Nat → St → Hp → Prop, (∃ m, W 0 m σ H) ∧ ∀ i m σ H, W i m σ H →
   ((Itl K a).stop i H ∧ D.nx σ H) ∨ ((Itl K a).go i H ∧ ∃ N : St → Hp → Prop, (∀ σ' H', N σ' H' → ∃ m', m' < m ∧ W (i + 1) m' σ' H') ∧ ∀ x H', (Itl K a).yld i H x H' → g x σ H' fun σ2 H2 => tb { D with nx := N, ct := N, bk := D.nx } σ2 H2) := by
 refine ⟨fun i m σ H => m = xs.length - i ∧ i ≤ xs.length ∧ Pv i σ H, ⟨xs.length, by simp, Nat.zero_le _, h0⟩, ?_⟩
 rintro i m σ H ⟨rfl, hi, p⟩
 have q := hl i σ H hi p
 by_cases hlt : i < xs.length
 ·refine .inr ⟨⟨xs, xs[i], q, by simp [hlt]⟩, Pv (i + 1), fun σ' H' p' => ⟨xs.length - (i + 1), by omega, rfl, hlt, p'⟩, fun x H' y => ?_⟩
  obtain ⟨e, y⟩ := y
  subst e
  exact hs i x σ _ (y xs q) p
 ·have e : i = xs.length := by omega
  subst e
  exact .inl ⟨⟨xs, q, Nat.le_refl _⟩, hd σ H p⟩
theorem for_tup {K : W.Frag} {a : Addr} {xs : List V} {g : TG} {tb : TS} {D : Ends} {σ : St} {H : Hp} (Pv : Nat → St → Hp → Prop) (h0 : Pv 0 σ H) (hl : ∀ i σ H, i ≤ xs.length → Pv i σ H → SqT K H a xs)
  (hs : ∀ i x σ H, xs[i]? = some x → Pv i σ H → g x σ H fun σ2 H2 => tb { D with nx := Pv (i + 1), ct := Pv (i + 1), bk := D.nx } σ2 H2) (hd : ∀ σ H, Pv xs.length σ H → D.nx σ H) :
  ∃ W : Nat → Nat → St → Hp → Prop, (∃ m, W 0 m σ H) ∧ ∀ i m σ H, W i m σ H →
   ((Itt K a).stop i H ∧ D.nx σ H) ∨ ((Itt K a).go i H ∧ ∃ N : St → Hp → Prop, (∀ σ' H', N σ' H' → ∃ m', m' < m ∧ W (i + 1) m' σ' H') ∧ ∀ x H', (Itt K a).yld i H x H' → g x σ H' fun σ2 H2 => tb { D with nx := N, ct := N, bk := D.nx } σ2 H2) := by
 refine ⟨fun i m σ H => m = xs.length - i ∧ i ≤ xs.length ∧ Pv i σ H, ⟨xs.length, by simp, Nat.zero_le _, h0⟩, ?_⟩
 rintro i m σ H ⟨rfl, hi, p⟩
 have q := hl i σ H hi p
 by_cases hlt : i < xs.length
 ·refine .inr ⟨⟨xs, xs[i], q, by simp [hlt]⟩, Pv (i + 1), fun σ' H' p' => ⟨xs.length - (i + 1), by omega, rfl, hlt, p'⟩, fun x H' y => ?_⟩
  obtain ⟨e, y⟩ := y
  subst e
  exact hs i x σ _ (y xs q) p
 ·have e : i = xs.length := by omega
  subst e
  exact .inl ⟨⟨xs, q, Nat.le_refl _⟩, hd σ H p⟩
theorem for_range {lo : Int} {n : Nat} {g : TG} {tb : TS} {D : Ends} {σ : St} {H : Hp} (Pv : Nat → St → Hp → Prop) (h0 : Pv 0 σ H)
  (hs : ∀ i σ H, i < n → Pv i σ H → g (.int (lo + i)) σ H fun σ2 H2 => tb { D with nx := Pv (i + 1), ct := Pv (i + 1), bk := D.nx } σ2 H2) (hd : ∀ σ H, Pv n σ H → D.nx σ H) :
  ∃ W : Nat → Nat → St → Hp → Prop, (∃ m, W 0 m σ H) ∧ ∀ i m σ H, W i m σ H →
   ((Itr lo n).stop i H ∧ D.nx σ H) ∨ ((Itr lo n).go i H ∧ ∃ N : St → Hp → Prop, (∀ σ' H', N σ' H' → ∃ m', m' < m ∧ W (i + 1) m' σ' H') ∧ ∀ x H', (Itr lo n).yld i H x H' → g x σ H' fun σ2 H2 => tb { D with nx := N, ct := N, bk := D.nx } σ2 H2) := by
 refine ⟨fun i m σ H => m = n - i ∧ i ≤ n ∧ Pv i σ H, ⟨n, by simp, Nat.zero_le _, h0⟩, ?_⟩
 rintro i m σ H ⟨rfl, hi, p⟩
 by_cases hlt : i < n
 ·refine .inr ⟨hlt, Pv (i + 1), fun σ' H' p' => ⟨n - (i + 1), by omega, rfl, hlt, p'⟩, fun x H' y => ?_⟩
  obtain ⟨e, y⟩ := y
  subst e y
  exact hs i σ _ hlt p
 ·have e : i = n := by omega
  subst e
  exact .inl ⟨Nat.le_refl _, hd σ H p⟩
theorem while_by {c : TT} {tb : TS} {D : Ends} {σ : St} {H : Hp} (Pv : St → Hp → Prop) (μ : St → Hp → Nat) (h0 : Pv σ H)
  (hs : ∀ σ H, Pv σ H → c σ H fun b H1 => if b = true then tb { D with nx := fun σ' H' => Pv σ' H' ∧ μ σ' H' < μ σ H, ct := fun σ' H' => Pv σ' H' ∧ μ σ' H' < μ σ H, bk := D.nx } σ H1 else D.nx σ H1)
  (mono : ∀ σ H Q Q', (∀ b H1, Q b H1 → Q' b H1) → c σ H Q → c σ H Q') : tWhile c tb D σ H := by
 refine ⟨fun m σ H => m = μ σ H ∧ Pv σ H, ⟨_, rfl, h0⟩, ?_⟩
 rintro m σ H ⟨rfl, p⟩
 refine mono σ H _ _ (fun b H1 q => ?_) (hs σ H p)
 cases b with
 | true => exact ⟨_, fun σ' H' ⟨p', l⟩ => ⟨_, l, rfl, p'⟩, q⟩
 | false => exact q
end L2
namespace L2
open PySem PySem.Spec PyProof.Rows
abbrev R2 := V → V → Hp → VK → Prop
def OpR (X : Cx) (f : Value → Value → Sem Value) (r : R2) : Prop :=
 ∀ (pins : List (Addr × Obj)) (s : Shared) (σ : St) (H : Hp) (x y : V) (v u : Value) (Q : VK), Inv X pins σ H s → RelV x v → RelV y u → r x y H Q →
  wpAny (model X.prog X.w) X.A (f v u) (EP X pins σ Q) X.xe s
def UnR (X : Cx) (f : Value → Sem Value) (r : V → Hp → VK → Prop) : Prop :=
 ∀ (pins : List (Addr × Obj)) (s : Shared) (σ : St) (H : Hp) (x : V) (v : Value) (Q : VK), Inv X pins σ H s → RelV x v → r x H Q →
  wpAny (model X.prog X.w) X.A (f v) (EP X pins σ Q) X.xe s
def CallR (X : Cx) (f : Value) (r : List V → Hp → VK → Prop) : Prop :=
 ∀ (pins : List (Addr × Obj)) (s : Shared) (σ : St) (H : Hp) (xs : List V) (us : List Value) (Q : VK), Inv X pins σ H s → Vals xs us → r xs H Q →
  wpAny (model X.prog X.w) X.A (call f us) (EP X pins σ Q) X.xe s
def TruR (X : Cx) (r : V → Hp → (Bool → Hp → Prop) → Prop) : Prop :=
 ∀ (pins : List (Addr × Obj)) (s : Shared) (σ : St) (H : Hp) (x : V) (v : Value) (Q : Bool → Hp → Prop), Inv X pins σ H s → RelV x v → r x H Q →
  wpAny (model X.prog X.w) X.A (truthy v) (TP X pins σ Q) X.xe s
def tOp (r : R2) (ta tb : TE) : TE := fun σ H Q => ta σ H fun x H1 => tb σ H1 fun y H2 => r x y H2 Q
def tUn (r : V → Hp → VK → Prop) (ta : TE) : TE := fun σ H Q => ta σ H fun x H1 => r x H1 Q
def rI (C : Int → Int → Prop) (g : Int → Int → V) : R2 := fun x y H Q => ∃ i j, x = .int i ∧ y = .int j ∧ C i j ∧ Q (g i j) H
def rI0 (g : Int → Int → V) : R2 := fun x y H Q => ∃ i j, x = .int i ∧ y = .int j ∧ Q (g i j) H
def rU (g : Int → V) : V → Hp → VK → Prop := fun x H Q => ∃ i, x = .int i ∧ Q (g i) H
section
variable {X : Cx} {a b c : Expr} {ta tb tc : TE} {pos : Pos}
theorem binT (ha : PE X a ta) (hb : PE X b tb) {pins : List (Addr × Obj)} {s : Shared} {σ : St} {H : Hp} {R : V → V → Hp → Prop} (I : Inv X pins σ H s)
  (h : ta σ H fun x H1 => tb σ H1 fun y H2 => R x y H2) {Q : Value → Shared → Prop} {f : Value → Value → Sem Value}
  (hf : ∀ v u s2 x y H2, Inv X pins σ H2 s2 → RelV x v → RelV y u → R x y H2 → wpAny (model X.prog X.w) X.A (f v u) Q X.xe s2) :
  wpAny (model X.prog X.w) X.A (eval a X.env) (fun v s₁ => wpAny (model X.prog X.w) X.A (eval b X.env) (fun u s₂ => wpAny (model X.prog X.w) X.A (f v u) Q X.xe s₂) X.xe s₁) X.xe s := by
 refine thn (ha pins s σ H _ I h) fun v s1 ⟨x, H1, I1, r1, q1⟩ => ?_
 refine thn (hb pins s1 σ H1 _ I1 q1) fun u s2 ⟨y, H2, I2, r2, q2⟩ => ?_
 exact hf v u s2 x y H2 I2 r1 r2 q2
theorem pe_op {op : Operator} {r : R2} (ho : OpR X (binaryOp op) r) (ha : PE X a ta) (hb : PE X b tb) : PE X (.BinOp a op b pos) (tOp r ta tb) := by
 intro pins s σ H Q I h
 exact wpAny_BinOp (binT ha hb I h fun v u s2 x y H2 I2 rx ry q => ho pins s2 σ H2 x y v u Q I2 rx ry q)
theorem pe_un {op : UnaryOp} {r : V → Hp → VK → Prop} (ho : UnR X (unaryOp op) r) (ha : PE X a ta) : PE X (.UnaryOp op a pos) (tUn r ta) := by
 intro pins s σ H Q I h
 exact UnaryOp_ (thn (ha pins s σ H _ I h) fun v s1 ⟨x, H1, I1, r1, q1⟩ => ho pins s1 σ H1 x v Q I1 r1 q1)
theorem opI {f : Value → Value → Sem Value} {C : Int → Int → Prop} {g : Int → Int → Int}
  (rule : ∀ (i j : Int) (t u : Tok) (s : Shared) (Q : Value → Shared → Prop) (E : Value → Shared → Prop), C i j → Q (.int (g i j) s.toks) { s with toks := s.toks + 1 } → wpAny (model X.prog X.w) X.A (f (.int i t) (.int j u)) Q E s) :
  OpR X f (rI C fun i j => .int (g i j)) := by
 intro pins s σ H x y v u Q I rx ry h
 obtain ⟨i, j, rfl, rfl, hc, q⟩ := h
 obtain ⟨t, rfl⟩ := rx
 obtain ⟨t', rfl⟩ := ry
 exact rule i j t t' s _ _ hc ⟨.int (g i j), H, I.tok _, ⟨_, rfl⟩, q⟩
theorem opI0 {f : Value → Value → Sem Value} {g : Int → Int → Int}
  (rule : ∀ (i j : Int) (t u : Tok) (s : Shared) (Q : Value → Shared → Prop) (E : Value → Shared → Prop), Q (.int (g i j) s.toks) { s with toks := s.toks + 1 } → wpAny (model X.prog X.w) X.A (f (.int i t) (.int j u)) Q E s) :
  OpR X f (rI0 fun i j => .int (g i j)) := by
 intro pins s σ H x y v u Q I rx ry h
 obtain ⟨i, j, rfl, rfl, q⟩ := h
 obtain ⟨t, rfl⟩ := rx
 obtain ⟨t', rfl⟩ := ry
 exact rule i j t t' s _ _ ⟨.int (g i j), H, I.tok _, ⟨_, rfl⟩, q⟩
theorem opB0 {f : Value → Value → Sem Value} {g : Int → Int → Bool}
  (rule : ∀ (i j : Int) (t u : Tok) (s : Shared) (Q : Value → Shared → Prop) (E : Value → Shared → Prop), Q (.bool (g i j)) s → wpAny (model X.prog X.w) X.A (f (.int i t) (.int j u)) Q E s) :
  OpR X f (rI0 fun i j => .bl (g i j)) := by
 intro pins s σ H x y v u Q I rx ry h
 obtain ⟨i, j, rfl, rfl, q⟩ := h
 obtain ⟨t, rfl⟩ := rx
 obtain ⟨t', rfl⟩ := ry
 exact rule i j t t' s _ _ ⟨.bl (g i j), H, I, rfl, q⟩
def CMul (i j : Int) : Prop := (-(2 ^ 64) < i ∧ i < 2 ^ 64) ∨ (-(2 ^ 64) < j ∧ j < 2 ^ 64)
theorem CMul.ok {i j : Int} (h : CMul i j) : IntMulOk i j := by
 rcases h with ⟨h1, h2⟩ | ⟨h1, h2⟩
 ·exact .of_left (intBits_le_64 h1 h2)
 ·exact .of_right (intBits_le_64 h1 h2)
theorem op_add : OpR X (binaryOp .Add) (rI0 fun i j => .int (i + j)) := opI0 fun _ _ _ _ _ _ _ q => add_int q
theorem op_sub : OpR X (binaryOp .Sub) (rI0 fun i j => .int (i - j)) := opI0 fun _ _ _ _ _ _ _ q => sub_int q
theorem op_mul : OpR X (binaryOp .Mult) (rI CMul fun i j => .int (i * j)) := opI fun _ _ _ _ _ _ _ hc q => mul_int q hc.ok
theorem unI {f : Value → Sem Value} {g : Int → Int}
  (rule : ∀ (i : Int) (t : Tok) (s : Shared) (Q : Value → Shared → Prop) (E : Value → Shared → Prop), Q (.int (g i) s.toks) { s with toks := s.toks + 1 } → wpAny (model X.prog X.w) X.A (f (.int i t)) Q E s) :
  UnR X f (rU fun i => .int (g i)) := by
 intro pins s σ H x v Q I rx h
 obtain ⟨i, rfl, q⟩ := h
 obtain ⟨t, rfl⟩ := rx
 exact rule i t s _ _ ⟨.int (g i), H, I.tok _, ⟨_, rfl⟩, q⟩
theorem un_neg : UnR X (unaryOp .USub) (rU fun i => .int (-i)) := unI fun _ _ _ _ _ q => neg_int q
end
def scal : V → V → Bool
 | .non, .non => true | .non, .int _ => true | .int _, .non => true | .non, .bl _ => true | .bl _, .non => true | .non, .str _ => true | .str _, .non => true
 | .int _, .int _ => true | .bl _, .bl _ => true | .str _, .str _ => true | .byt _, .byt _ => true
 | .int _, .str _ => true | .str _, .int _ => true | .bl _, .str _ => true | .str _, .bl _ => true
 | _, _ => false
def rEq : R2 := fun x y H Q => scal x y = true ∧ Q (.bl (decide (x = y))) H
theorem dec_int {i j : Int} : decide (V.int i = V.int j) = (i == j) := by
 rw [Bool.eq_iff_iff]
 simp
theorem dec_bl {i j : Bool} : decide (V.bl i = V.bl j) = (i == j) := by
 rw [Bool.eq_iff_iff]
 simp
theorem dec_str {i j : Str} : decide (V.str i = V.str j) = (i == j) := by
 rw [Bool.eq_iff_iff]
 simp
theorem dec_byt {i j : Array UInt8} : decide (V.byt i = V.byt j) = (i.toList == j.toList) := by
 rw [Bool.eq_iff_iff]
 cases i
 cases j
 simp
section
variable {X : Cx} {a b c : Expr} {ta tb tc : TE} {pos : Pos}
theorem fin_bl {pins : List (Addr × Obj)} {σ : St} {H : Hp} {s : Shared} {Q : VK} {k k' : Bool} (I : Inv X pins σ H s) (q : Q (.bl k) H) (e : k = k') : EP X pins σ Q (.bool k') s := by
 subst e
 exact ⟨.bl k, H, I, rfl, q⟩
theorem op_eq : OpR X (compareOp .Eq) rEq := by
 intro pins s σ H x y v u Q I rx ry h
 obtain ⟨hs, q⟩ := h
 cases x with
 | non =>
  cases rx
  cases y with
  | non => cases ry; exact PySem.EqNone.eq_none_none (fin_bl I q (by simp))
  | bl j => cases ry; exact PySem.EqNone.eq_none_bool (fin_bl I q (by simp))
  | int j => obtain ⟨t', rfl⟩ := ry; exact PySem.EqNone.eq_none_int (fin_bl I q (by simp))
  | str j => obtain ⟨t', rfl⟩ := ry; exact PySem.EqNone.eq_none_str (fin_bl I q (by simp))
  | _ => exact absurd (show false = true from hs) Bool.false_ne_true
 | bl i =>
  cases rx
  cases y with
  | non => cases ry; exact PySem.EqNone.eq_bool_none (fin_bl I q (by simp))
  | bl j => cases ry; exact eq_bool (fin_bl I q dec_bl)
  | str j => obtain ⟨t', rfl⟩ := ry; exact PySem.EqMixed.eq_bool_str (fin_bl I q (by simp))
  | _ => exact absurd (show false = true from hs) Bool.false_ne_true
 | int i =>
  obtain ⟨t, rfl⟩ := rx
  cases y with
  | non => cases ry; exact PySem.EqNone.eq_int_none (fin_bl I q (by simp))
  | int j => obtain ⟨t', rfl⟩ := ry; exact eq_int (fin_bl I q dec_int)
  | str j => obtain ⟨t', rfl⟩ := ry; exact PySem.EqMixed.eq_int_str (fin_bl I q (by simp))
  | _ => exact absurd (show false = true from hs) Bool.false_ne_true
 | str i =>
  obtain ⟨t, rfl⟩ := rx
  cases y with
  | non => cases ry; exact PySem.EqNone.eq_str_none (fin_bl I q (by simp))
  | bl j => cases ry; exact PySem.EqMixed.eq_str_bool (fin_bl I q (by simp))
  | int j => obtain ⟨t', rfl⟩ := ry; exact PySem.EqMixed.eq_str_int (fin_bl I q (by simp))
  | str j => obtain ⟨t', rfl⟩ := ry; exact eq_str (fin_bl I q dec_str)
  | _ => exact absurd (show false = true from hs) Bool.false_ne_true
 | byt i =>
  obtain ⟨t, rfl⟩ := rx
  cases y with
  | byt j => obtain ⟨t', rfl⟩ := ry; exact W.eq_bytes (fin_bl I q dec_byt)
  | _ => exact absurd (show false = true from hs) Bool.false_ne_true
 | _ => cases y <;> exact absurd (show false = true from hs) Bool.false_ne_true
theorem op_lt : OpR X (compareOp .Lt) (rI0 fun i j => .bl (decide (i < j))) := opB0 fun _ _ _ _ _ _ _ q => lt_int q
theorem op_le : OpR X (compareOp .LtE) (rI0 fun i j => .bl (decide (i ≤ j))) := opB0 fun _ _ _ _ _ _ _ q => le_int q
theorem op_gt : OpR X (compareOp .Gt) (rI0 fun i j => .bl (decide (j < i))) := opB0 fun _ _ _ _ _ _ _ q => gt_int q
theorem nomark (b : Expr) {op : CmpOp} (h : op ≠ .In := by decide) (h2 : op ≠ .NotIn := by decide) : behindInMarks op b = false := by
 have e1 : (op == CmpOp.In) = false := by cases op <;> first | rfl | exact absurd rfl h
 have e2 : (op == CmpOp.NotIn) = false := by cases op <;> first | rfl | exact absurd rfl h2
 cases b <;> simp [behindInMarks, e1, e2]
theorem pe_cmpR {op : CmpOp} {r : R2} (ho : OpR X (compareOp op) r) (ha : PE X a ta) (hb : PE X b tb) (hm : behindInMarks op b = false) : PE X (.Compare a [op] [b] pos) (tOp r ta tb) := by
 intro pins s σ H Q I h
 exact wpAny_Compare1 (binT ha hb I h fun v u s2 x y H2 I2 rx ry q => ho pins s2 σ H2 x y v u Q I2 rx ry q) hm
def tTest (t : TE) : TT := fun σ H Q => t σ H fun x H' => ∃ k, x = .bl k ∧ Q k H'
theorem pt_cmpR {op : CmpOp} {r : R2} (ho : OpR X (compareOp op) r) (ha : PE X a ta) (hb : PE X b tb) (hm : behindInMarks op b = false) : PT X (.Compare a [op] [b] pos) (tTest (tOp r ta tb)) := by
 intro pins s σ H Q I h
 refine wpAny_isTrue_Compare1 (thn (ha pins s σ H _ I h) fun v s1 ⟨x, H1, I1, r1, q1⟩ => thn (hb pins s1 σ H1 _ I1 q1) fun u s2 ⟨y, H2, I2, r2, q2⟩ =>
  thn (ho pins s2 σ H2 x y v u _ I2 r1 r2 q2) fun c s3 ⟨z, H3, I3, r3, k, e, q3⟩ => ?_) hm
 subst e
 cases r3
 exact wpAny_truthy_bool ⟨H3, I3, q3⟩
def tChain (r r' : R2) (ta tb tc : TE) : TE := fun σ H Q => ta σ H fun x H1 => tb σ H1 fun y H2 => r x y H2 fun z H3 => ∃ k, z = .bl k ∧
 (if k = true then tc σ H3 fun w' H4 => r' y w' H4 Q else Q (.bl false) H3)
theorem pe_chain {op op' : CmpOp} {r r' : R2} (ho : OpR X (compareOp op) r) (ho' : OpR X (compareOp op') r') (ha : PE X a ta) (hb : PE X b tb) (hc : PE X c tc)
  (hm : lastMarks [op, op'] [b, c] = false := by with_unfolding_all rfl) : PE X (.Compare a [op, op'] [b, c] pos) (tChain r r' ta tb tc) := by
 intro pins s σ H Q I h
 refine Compare_chain (thn (ha pins s σ H _ I h) fun v s1 ⟨x, H1, I1, r1, q1⟩ => chain_link (thn (hb pins s1 σ H1 _ I1 q1) fun u s2 ⟨y, H2, I2, r2, q2⟩ =>
  thn (ho pins s2 σ H2 x y v u _ I2 r1 r2 q2) fun d s3 ⟨z, H3, I3, r3, k, e, q3⟩ => ?_)) hm
 subst e
 cases r3
 refine wpAny_truthy_bool ?_
 cases k with
 | false => exact ite_ff ⟨.bl false, H3, I3, rfl, q3⟩
 | true => exact ite_tt (chain_last (thn (hc pins s3 σ H3 _ I3 q3) fun w' s4 ⟨z', H4, I4, r4, q4⟩ => ho' pins s4 σ H4 y z' u w' Q I4 r2 r4 q4))
theorem pt_chain {op op' : CmpOp} {r r' : R2} (ho : OpR X (compareOp op) r) (ho' : OpR X (compareOp op') r') (ha : PE X a ta) (hb : PE X b tb) (hc : PE X c tc)
  (hm : lastMarks [op, op'] [b, c] = false := by with_unfolding_all rfl) : PT X (.Compare a [op, op'] [b, c] pos) (tTest (tChain r r' ta tb tc)) := by
 intro pins s σ H Q I h
 refine isTrue_chain (thn (ha pins s σ H _ I h) fun v s1 ⟨x, H1, I1, r1, q1⟩ => test_link (thn (hb pins s1 σ H1 _ I1 q1) fun u s2 ⟨y, H2, I2, r2, q2⟩ =>
  thn (ho pins s2 σ H2 x y v u _ I2 r1 r2 q2) fun d s3 ⟨z, H3, I3, r3, k, e, q3⟩ => ?_)) hm
 subst e
 cases r3
 refine wpAny_truthy_bool ?_
 cases k with
 | false =>
  obtain ⟨k', e', q'⟩ := q3
  cases e'
  exact ite_ff ⟨H3, I3, q'⟩
 | true =>
  refine ite_tt (test_last (thn (hc pins s3 σ H3 _ I3 q3) fun w' s4 ⟨z', H4, I4, r4, q4⟩ => thn (ho' pins s4 σ H4 y z' u w' _ I4 r2 r4 q4) fun d' s5 ⟨z2, H5, I5, r5, k2, e2, q5⟩ => ?_))
  subst e2
  cases r5
  exact wpAny_truthy_bool ⟨H5, I5, q5⟩
def TruV (K : W.Frag) (x : V) (H : Hp) (k : Bool) : Prop :=
 match x with
 | .non => k = false
 | .bl b => k = b
 | .int i => k = (i != 0)
 | .str y => y.length ≤ sizeLine ∧ k = ((y.length : Int) != 0)
 | .byt y => y.size ≤ sizeLine ∧ k = ((y.size : Int) != 0)
 | .ref p => (∃ xs, SqL K H p xs ∧ k = !xs.isEmpty) ∨ (∃ xs, SqT K H p xs ∧ k = !xs.isEmpty) ∨ ∃ kvs, H p = some (.dK kvs) ∧ k = !kvs.isEmpty
 | _ => False
theorem isEmpty_kv {κ : Type} {kvs : List (κ × V)} {vs : List (κ × Value)} (r : KV kvs vs) : (!vs.isEmpty) = !kvs.isEmpty := by
 cases r <;> rfl
theorem isEmpty_of {xs : List V} {its : List Value} (r : Vals xs its) : (!its.toArray.isEmpty) = !xs.isEmpty := by
 cases r <;> simp
theorem line63 : (sizeLine : Nat) < 2 ^ 63 := by rw [sizeLine_eq]; decide
theorem tru_ok : TruR X (fun x H Q => ∃ k, TruV X.K x H k ∧ Q k H) := by
 intro pins s σ H x v Q I rx h
 obtain ⟨k, e, q⟩ := h
 have hl := line63
 have hs : sizeLine = 16777216 := sizeLine_eq
 cases x with
 | non =>
  cases rx
  have e' : k = false := e
  subst e'
  exact truthy_none ⟨H, I, q⟩
 | bl b =>
  cases rx
  have e' : k = b := e
  subst e'
  exact wpAny_truthy_bool ⟨H, I, q⟩
 | int i =>
  obtain ⟨t, rfl⟩ := rx
  have e' : k = (i != 0) := e
  subst e'
  exact PySem.P.truthy_int ⟨H, I, q⟩
 | str y =>
  obtain ⟨t, rfl⟩ := rx
  obtain ⟨hy, e'⟩ : y.length ≤ sizeLine ∧ k = ((y.length : Int) != 0) := e
  subst e'
  exact PySem.P.truthy_str (by omega) ⟨H, I.tok _, q⟩
 | byt y =>
  obtain ⟨t, rfl⟩ := rx
  obtain ⟨hy, e'⟩ : y.size ≤ sizeLine ∧ k = ((y.size : Int) != 0) := e
  subst e'
  exact W.truthy_bytes (by omega) ⟨H, I.tok _, q⟩
 | ref p =>
  cases rx
  have e' : (∃ xs, SqL X.K H p xs ∧ k = !xs.isEmpty) ∨ (∃ xs, SqT X.K H p xs ∧ k = !xs.isEmpty) ∨ ∃ kvs, H p = some (.dK kvs) ∧ k = !kvs.isEmpty := e
  rcases e' with ⟨xs, hx, e'⟩ | ⟨xs, hx, e'⟩ | ⟨kvs, hx, e'⟩
  ·subst e'
   obtain ⟨its, r, pl, hz⟩ := I.list hx
   have hlen := r.length
   exact wpAny_truthy_list pl.isList (by simp only [List.size_toArray]; omega) ⟨H, I.tok _, by rw [isEmpty_of r]; exact q⟩
  ·subst e'
   obtain ⟨its, r, pl, hz⟩ := I.tuple hx
   have hlen := r.length
   exact truthy_tuple pl (by simp only [List.size_toArray]; omega) ⟨H, I.tok _, by rw [isEmpty_of r]; exact q⟩
  ·subst e'
   obtain ⟨hz, hS, vs, r, m⟩ : kvs.length ≤ sizeLine ∧ (p == sysModules) = false ∧ ∃ vs, KV kvs vs ∧ s.heap.DictOf (mixKind X.prog X.w) p vs := I.hok p _ hx
   have hlen : kvs.length = vs.length := Paired.length r
   exact wpAny_truthy_dict hS m (by omega) ⟨H, I.tok _, by rw [isEmpty_kv r]; exact q⟩
 | _ => exact (show False from e).elim
theorem pt_truth (ha : PE X a ta) (he : ∀ whole, isTrue a X.env whole = (do let v ← whole; standAt a.pos; holding [v] (truthy v))) :
  PT X a (fun σ H Q => ta σ H fun x H' => ∃ k, TruV X.K x H' k ∧ Q k H') := by
 intro pins s σ H Q I h
 exact isTrue_plain (thn (ha pins s σ H _ I h) fun v s1 ⟨x, H1, I1, r1, q1⟩ => tru_ok pins s1 σ H1 x v Q I1 r1 q1) (he _)
theorem vals1 {x : V} {us : List Value} (r : Vals [x] us) : ∃ u, us = [u] ∧ RelV x u := by
 cases r with
 | cons r1 r2 => cases r2; exact ⟨_, rfl, r1⟩
theorem call_str_int : CallR X (.type "str") (fun xs H Q => ∃ i, xs = [.int i] ∧ i.natAbs.log2 < 1920 ∧ Q (.str (toString i)) H) := by
 intro pins s σ H xs us Q I r h
 obtain ⟨i, rfl, hz, q⟩ := h
 obtain ⟨u, rfl, t, rfl⟩ := vals1 r
 exact PySem.P.str_of_int hz ⟨.str _, H, I.tok _, ⟨_, rfl⟩, q⟩
theorem call_ord : CallR X (.builtin "ord") (fun xs H Q => ∃ x, xs = [.str x] ∧ x.length = 1 ∧ Q (.int (x.cps.getD 0 0 : Nat)) H) := by
 intro pins s σ H xs us Q I r h
 obtain ⟨x, rfl, hz, q⟩ := h
 obtain ⟨u, rfl, t, rfl⟩ := vals1 r
 exact ord_of_one hz ⟨.int _, H, I.tok _, ⟨_, rfl⟩, q⟩
end
end L2
namespace L2
open PySem PySem.Spec PyProof.Rows
structure ObjM (h : Heap) (x dx C : Addr) (mA : Str → Option Value) : Prop where
 obj : h.get? x = some (W.instObj C dx)
 ns : h.Ns1 dx mA
 ne : dx ≠ x
theorem lookIn_ns {h : Heap} {dx : Addr} {mA : Str → Option Value} (n : h.Ns1 dx mA) : ∃ od, h.get? dx = some od ∧ ∀ name, W.lookIn name od = some (mA name) := by
 obtain ⟨o, es, ep, ho, hd, hk, _, hm⟩ := n
 refine ⟨o, ho, fun name => ?_⟩
 have e := hm name
 unfold nsFind findBy at e
 rw [← Array.find?_toList] at e
 unfold W.lookIn
 rw [hd]
 dsimp only
 split
 ·rename_i y q
  rw [q] at e
  exact congrArg some e
 ·rename_i q
  rw [q] at e
  have a : es.toList.any (·.refKey) = false := by
   rw [List.any_eq_false]
   intro y hy
   obtain ⟨z, t, hkey⟩ := hk y (Array.mem_toList_iff.mp hy)
   simp [DictEntry.refKey, hkey]
  have a' : ¬ es.toList.any (·.refKey) = true := by rw [a]; exact Bool.false_ne_true
  rw [if_neg a']
  exact congrArg some e
theorem ObjM.look {h : Heap} {x dx C : Addr} {mA : Str → Option Value} (I : ObjM h x dx C mA) : ∃ od, W.InstAt h x (W.instObj C dx) C (some od) ∧ ∀ name, W.lookIn name od = some (mA name) :=
 let ⟨od, ho, hl⟩ := lookIn_ns I.ns
 ⟨od, ⟨I.obj, rfl, rfl, ho⟩, hl⟩
section
variable {prog : Program} {w : World} {A : Around} {E : Value → Shared → Prop} {s : Shared} {K : W.Frag} {x dx C f : Addr} {mA : Str → Option Value} {name : Str} {v : Value}
theorem get_map {expr : Bool} {Q : Value → Shared → Prop} (X : K.In s.heap) (I : ObjM s.heap x dx C mA) (hg : W.plainGet K C name = true) (hh : W.hasDictIn K C = true)
  (ha : W.findIn K (.ref C) name = some none) (hv : mA name = some v) (hv' : W.handedIn v = true) (h : Q v { s with toks := s.toks + 1 }) :
  wpAny (model prog w) A (getAttr (.ref x) name expr) Q E s := by
 obtain ⟨od, J, hl⟩ := I.look
 exact W.get_value X J (W.plainGet_of hg).1 (W.findObj_own hh ha rfl (by rw [hl, hv])) hv' h
theorem get_meth {pl : Sem Bool} {Q : Value × List Value → Shared → Prop} (X : K.In s.heap) (I : ObjM s.heap x dx C mA) (hg : W.plainGet K C name = true)
  (hf : W.findIn K (.ref C) name = some (some (.ref f))) (ht : W.isFn K (.ref f) = true) (hv : mA name = none) (h : Q (.ref f, [.ref x]) s) :
  wpAny (model prog w) A (getMethod (.ref x) name pl) Q E s := by
 obtain ⟨od, J, hl⟩ := I.look
 exact W.method_fn X J (W.plainGet_of hg).1 (W.plainGet_of hg).2 hf (beq_iff_eq.mp ht) (by show (W.lookIn name od).map (·.isSome) = some false; rw [hl, hv]; rfl) h
theorem set_map {ns : List Str} {Q : Unit → Shared → Prop} (X : K.In s.heap) (I : ObjM s.heap x dx C mA)
  (hs : W.findIn K (.ref C) "__setattr__" = some (some (.builtin "object.__setattr__"))) (hp : W.plainOver K C = true) (ht : W.takerIn K C name = some none) (hh : W.hasDictIn K C = true)
  (hw : PySem.Within mA ns) (hsz : ns.length ≤ sizeLine)
  (h : ∀ h', ObjM h' x dx C (fun y => if y = name then some v else mA y) → Heap.SameBut dx s.heap h' → Q () { s with heap := h', toks := s.toks + 2 }) :
  wpAny (model prog w) A (setAttr (.ref x) name v) Q E s := by
 obtain ⟨od, J, hl⟩ := I.look
 refine W.set_plain X J hs (W.osa_open (s := { s with toks := s.toks + 1 }) (r := none) X J hp ht fun b => ?_)
 obtain ⟨cd, hc, hd'⟩ := W.any_some hh
 have hx : s.heap.get? x = some ⟨.ref C, some dx, .plain, #[]⟩ := I.obj
 refine wpAny_bind (wpAny_pure (wpAny_bind (wpAny_bind (wpAny_loadPart hx (wpAny_bind (W.Looks.here (s := { s with toks := s.toks + 1 }) (W.looks_clsIn X hc) ?_))))))
 rw [hd']
 refine wpAny_pure (a := some dx) (wpAny_bind (wpAny_pure (wpAny_bind ?_)))
 refine wpAny_nsSet1 (s := { s with toks := s.toks + 1 }) I.ns fun h' hn2 hs2 => ?_
 obtain ⟨oD, esD, epD, hoD, hdD, hcD⟩ := hn2.count (PySem.Within.cons name v hw)
 refine wpAny_bind (wpAny_lookBehind hoD (by rw [hdD]; exact pastItsLine_dict (Nat.le_trans hcD (by rw [List.length_cons]; omega))) ?_)
 exact wpAny_pure (h _ ⟨(hs2.2 _ (Ne.symm I.ne)).trans I.obj, hn2, I.ne⟩ hs2)
theorem make_map {R : Result → Shared → Prop} {vs : List Value} {kw : List (Str × Value)} (X : K.In s.heap) (hm : W.makesIn K C = true)
  (hi : W.findIn K (.ref C) "__init__" = some (some (.ref f))) (hf : W.typeIn K (.ref f) = some (.type "function"))
  (h : codeAny (model prog w) (A.under (.builtin "type.__call__" ⟨.ref C :: vs, kw⟩)) (.call (.ref f) ⟨.ref (s.heap.objs.size + 1) :: vs, kw⟩) (W.InitBack (s.heap.objs.size + 1) R)
   { s with heap := (s.heap.push W.emptyDict).push (W.instObj C s.heap.objs.size) }) :
  codeAny (model prog w) A (.call (.ref C) ⟨vs, kw⟩) R s := by
 obtain ⟨hh, g, d, t, os⟩ := s
 exact W.make_core (W.makes_of X hm) (W.looks_findIn X hi) (fun self => W.bind_fn X self hf) (.inl rfl) h
end
def putF (f : Str) (v : V) : List (Str × V) → List (Str × V)
 | [] => [(f, v)]
 | (g, x) :: r => if g = f then (g, v) :: r else (g, x) :: putF f v r
theorem lookup_putF (f g : Str) (v : V) : ∀ fs : List (Str × V), (putF f v fs).lookup g = if g = f then some v else fs.lookup g
 | [] => by
  show List.lookup g [(f, v)] = _
  by_cases h : g = f
  ·have hb : (g == f) = true := beq_iff_eq.mpr h
   simp only [List.lookup, hb, if_pos h]
  ·have hb : (g == f) = false := beq_eq_false_iff_ne.mpr h
   simp only [List.lookup, hb, if_neg h]
 | (k, x) :: r => by
  have ih := lookup_putF f g v r
  rw [show putF f v ((k, x) :: r) = (if k = f then (k, v) :: r else (k, x) :: putF f v r) from rfl]
  by_cases hk : k = f
  ·rw [if_pos hk]
   by_cases h : g = k
   ·have hb : (g == k) = true := beq_iff_eq.mpr h
    simp only [List.lookup, hb, if_pos (h.trans hk)]
   ·have hb : (g == k) = false := beq_eq_false_iff_ne.mpr h
    simp only [List.lookup, hb, if_neg (fun e : g = f => h (e.trans hk.symm))]
  ·rw [if_neg hk]
   by_cases h : g = k
   ·have hb : (g == k) = true := beq_iff_eq.mpr h
    simp only [List.lookup, hb, if_neg (fun e : g = f => hk (h.symm.trans e))]
   ·have hb : (g == k) = false := beq_eq_false_iff_ne.mpr h
    simp only [List.lookup, hb]
    exact ih
theorem keys_putF (f : Str) (v : V) : ∀ fs : List (Str × V), f ∈ (putF f v fs).map (·.1) ∧ ∀ g, g ∈ fs.map (·.1) → g ∈ (putF f v fs).map (·.1)
 | [] => ⟨by simp [putF], fun g h => by simp at h⟩
 | (k, x) :: r => by
  obtain ⟨i1, i2⟩ := keys_putF f v r
  rw [show putF f v ((k, x) :: r) = (if k = f then (k, v) :: r else (k, x) :: putF f v r) from rfl]
  by_cases hk : k = f
  ·rw [if_pos hk]
   subst hk
   exact ⟨by simp, fun g h => by simpa using h⟩
  ·rw [if_neg hk]
   refine ⟨?_, fun g h => ?_⟩
   ·rw [List.map_cons]
    exact List.mem_cons_of_mem _ i1
   ·rw [List.map_cons] at h ⊢
    rcases List.mem_cons.mp h with e | e
    ·exact List.mem_cons.mpr (.inl e)
    ·exact List.mem_cons_of_mem _ (i2 g e)
theorem length_putF (f : Str) (v : V) : ∀ fs : List (Str × V), (putF f v fs).length ≤ fs.length + 1
 | [] => by simp [putF]
 | (k, x) :: r => by
  have ih := length_putF f v r
  rw [show putF f v ((k, x) :: r) = (if k = f then (k, v) :: r else (k, x) :: putF f v r) from rfl]
  by_cases hk : k = f
  ·rw [if_pos hk, List.length_cons, List.length_cons]; omega
  ·rw [if_neg hk, List.length_cons, List.length_cons]; omega
theorem RelO.some_of {v : V} {o : Option Value} (r : RelO (some v) o) : ∃ u, o = some u ∧ RelV v u := by
 cases o with
 | none => exact (show False from r).elim
 | some u => exact ⟨u, rfl, r⟩
theorem RelO.none_of {o : Option Value} (r : RelO none o) : o = none := by
 cases o with
 | none => rfl
 | some u => exact (show False from r).elim
theorem handed_of {v : V} {u : Value} (r : RelV v u) : W.handedIn u = true := by
 cases v with
 | non => cases (show u = Value.none from r); rfl
 | bl b => cases (show u = Value.bool b from r); rfl
 | int i => obtain ⟨t, e⟩ := (show ∃ t, u = Value.int i t from r); cases e; rfl
 | str x => obtain ⟨t, e⟩ := (show ∃ t, u = Value.str x t from r); cases e; rfl
 | byt b => obtain ⟨t, e⟩ := (show ∃ t, u = Value.bytes b t from r); cases e; rfl
 | flt b => obtain ⟨t, e⟩ := (show ∃ t, u = Value.float b t from r); cases e; rfl
 | ref a => cases (show u = Value.ref a from r); rfl
 | ty n => cases (show u = Value.type n from r); rfl
section
variable {P : Program} {w : World} {H H' : Hp} {h h' : Heap} {a C dx : Addr} {fs fs' : List (Str × V)}
theorem ins_get (hok : HOk P w H h) (e : H a = some (.ins C dx fs)) : ∃ mA, ObjM h a dx C mA ∧ (∀ f, RelO (fs.lookup f) (mA f)) ∧ PySem.Within mA (fs.map (·.1)) ∧ fs.length ≤ 1000 ∧ H dx = some (.own a) := by
 obtain ⟨d, z, ne, ob, mA, n, r, q⟩ := (show ObjOk P w H h a (.ins C dx fs) from hok a _ e)
 exact ⟨mA, ⟨ob, n, ne⟩, r, q, z, d⟩
end
structure Cls (K : W.Frag) (C : Addr) : Prop where
 pg : W.plainGet K C Str.empty = true
 hd : W.hasDictIn K C = true
 po : W.plainOver K C = true
 sa : W.findIn K (.ref C) "__setattr__" = some (some (.builtin "object.__setattr__"))
theorem Cls.get {K : W.Frag} {C : Addr} (c : Cls K C) (f : Str) : W.plainGet K C f = true := c.pg
def NoAttr (K : W.Frag) (C : Addr) (f : Str) : Prop := W.findIn K (.ref C) f = some none
theorem NoAttr.taker {K : W.Frag} {C : Addr} {f : Str} (n : NoAttr K C f) : W.takerIn K C f = some none := by
 unfold W.takerIn
 rw [show W.findIn K (.ref C) f = some none from n]
 rfl
structure Meth (K : W.Frag) (C : Addr) (m : Str) (f : Addr) : Prop where
 at_ : W.findIn K (.ref C) m = some (some (.ref f))
 fn : W.isFn K (.ref f) = true
 kp : W.keepIn K (.ref f) = true
section
variable {X : Cx} {pins : List (Addr × Obj)} {σ : St} {H : Hp} {s : Shared} {a C dx : Addr} {fs : List (Str × V)} {f : Str} {v : V} {A : Around} {E : Value → Shared → Prop}
theorem getattr_ok {b : Bool} {Q : Value → Shared → Prop} (I : Inv X pins σ H s) (e : H a = some (.ins C dx fs)) (c : Cls X.K C) (n : NoAttr X.K C f) (l : fs.lookup f = some v)
  (h : ∀ u s', Inv X pins σ H s' → RelV v u → Q u s') : wpAny (model X.prog X.w) A (getAttr (.ref a) f b) Q E s := by
 obtain ⟨mA, O, r, _, _, _⟩ := ins_get I.hok e
 obtain ⟨u, hu, ru⟩ := RelO.some_of (v := v) (o := mA f) (by rw [← l]; exact r f)
 exact get_map I.kIn O (c.get f) c.hd n hu (handed_of ru) (h u _ (I.tok _) ru)
theorem getmeth_ok {m : Str} {g : Addr} {pl : Sem Bool} {Q : Value × List Value → Shared → Prop} (I : Inv X pins σ H s) (e : H a = some (.ins C dx fs)) (c : Cls X.K C) (k : Meth X.K C m g) (l : fs.lookup m = none)
  (h : Q (.ref g, [.ref a]) s) : wpAny (model X.prog X.w) A (getMethod (.ref a) m pl) Q E s := by
 obtain ⟨mA, O, r, _, _, _⟩ := ins_get I.hok e
 have hn : mA m = none := RelO.none_of (by rw [← l]; exact r m)
 exact get_meth I.kIn O (c.get m) k.at_ k.fn hn h
theorem setattr_ok {y : V} {u : Value} {Q : Unit → Shared → Prop} (I : Inv X pins σ H s) (e : H a = some (.ins C dx fs)) (c : Cls X.K C) (n : NoAttr X.K C f) (hl : fs.length < 1000) (ry : RelV y u)
  (h : ∀ s', Inv X pins σ (upd H a (.ins C dx (putF f y fs))) s' → Q () s') : wpAny (model X.prog X.w) A (setAttr (.ref a) f u) Q E s := by
 obtain ⟨mA, O, r, wi, _, ho⟩ := ins_get I.hok e
 have hz : (fs.map (·.1)).length ≤ sizeLine := by rw [List.length_map, sizeLine_eq]; omega
 refine set_map I.kIn O c.sa c.po n.taker c.hd wi hz fun h' O' sb => h _ ?_
 have hd : ∃ o, h'.get? dx = some o := let ⟨o, _, _, e', _⟩ := O'.ns; ⟨o, e'⟩
 refine I.write (x := a) (e := dx) (by rw [e]; exact True.intro) (.inr ho) (fun b q hb z => (sb.2 b hb).trans z) hd ?_
 refine ⟨by rw [uN O.ne]; exact ho, ?_, O.ne, O'.obj, _, O'.ns, fun g => ?_, fun g hg => ?_⟩
 ·have := length_putF f y fs; omega
 ·show RelO ((putF f y fs).lookup g) (if g = f then some u else mA g)
  rw [lookup_putF]
  by_cases q : g = f
  ·rw [if_pos q, if_pos q]; exact ry
  ·rw [if_neg q, if_neg q]; exact r g
 ·by_cases q : g = f
  ·rw [q]; exact (keys_putF f y fs).1
  ·refine (keys_putF f y fs).2 g (wi g fun z => hg ?_)
   show (if g = f then some u else mA g) = none
   rw [if_neg q]; exact z
theorem Inv.made (I : Inv X pins σ H s) : Inv X pins σ (upd (upd H s.heap.objs.size (.own (s.heap.objs.size + 1))) (s.heap.objs.size + 1) (.ins C s.heap.objs.size []))
  { s with heap := (s.heap.push W.emptyDict).push (W.instObj C s.heap.objs.size) } := by
 have e1 : (s.heap.push W.emptyDict).get? s.heap.objs.size = some W.emptyDict := Heap.get?_push_size s.heap rfl
 have e2 : ((s.heap.push W.emptyDict).push (W.instObj C s.heap.objs.size)).get? (s.heap.objs.size + 1) = some (W.instObj C s.heap.objs.size) := by
  have := Heap.get?_push_size (s.heap.push W.emptyDict) (o := W.instObj C s.heap.objs.size) rfl
  rwa [Heap.size_push] at this
 have e3 : (s.heap.push W.emptyDict).Ns s.heap.objs.size (fun _ => none) := ⟨W.emptyDict, #[], _, e1, rfl, (fun e he => absurd he (by simp)), fun _ => rfl⟩
 have I1 := I.laid (a := s.heap.objs.size) (o := .own (s.heap.objs.size + 1)) (h' := s.heap.push W.emptyDict) (t' := s.toks) (fun b u q => Heap.get?_push_of_some _ q) (Nat.le_refl _) ⟨_, e1⟩
 refine I1.laid (a := s.heap.objs.size + 1) (o := .ins C s.heap.objs.size []) (t' := s.toks) (fun b u q => Heap.get?_push_of_some _ q) (Nat.le_of_eq (Heap.size_push _ _)) ?_
 have ne : s.heap.objs.size ≠ s.heap.objs.size + 1 := Nat.ne_of_lt (Nat.lt_succ_self _)
 refine ⟨by rw [uN ne, uS], Nat.zero_le _, ne, e2, fun _ => none, (Heap.Ns1.of_empty e3).at fun o q => Heap.get?_push_of_some _ q, fun _ => True.intro, fun y hy => absurd rfl hy⟩
theorem attr_of {prog : Program} {w : World} {env : Env} {e : Expr} {f : Str} {pos : Pos} {s : Shared} {Q : Value → Shared → Prop} (hb : attributeBase e f env (eval e env) = eval e env)
  (h : wpAny (model prog w) A (eval e env) (fun o s₁ => wpAny (model prog w) A (getAttr o f true) Q E s₁) E s) : wpAny (model prog w) A (eval (.Attribute e f pos) env) Q E s :=
 Attribute_any_ h (by rw [arm_eval_Attribute, hb])
end
def tFld (K : W.Frag) (ta : TE) (f : Str) : TE := fun σ H Q => ta σ H fun x H1 => ∃ a C dx fs v, x = .ref a ∧ H1 a = some (.ins C dx fs) ∧ Cls K C ∧ NoAttr K C f ∧ fs.lookup f = some v ∧ Q v H1
def sFld (K : W.Frag) (ta tv : TE) (f : Str) : TS := fun D σ H => tv σ H fun y H1 => ta σ H1 fun x H2 => ∃ a C dx fs, x = .ref a ∧ H2 a = some (.ins C dx fs) ∧ Cls K C ∧ NoAttr K C f ∧ fs.length < 1000 ∧
 D.nx σ (upd H2 a (.ins C dx (putF f y fs)))
def InOp (X : Cx) (op : Operator) (rd : V → V → Hp → VK → Prop) : Prop :=
 ∀ (pins : List (Addr × Obj)) (s : Shared) (σ : St) (H : Hp) (x y : V) (u v : Value) (Q : VK), Inv X pins σ H s → RelV x u → RelV y v → rd x y H Q → wpAny (model X.prog X.w) X.A (inplaceOp op u v) (EP X pins σ Q) X.xe s
def sFldAug (K : W.Frag) (ta tv : TE) (rd : V → V → Hp → VK → Prop) (f : Str) : TS := fun D σ H => ta σ H fun x H1 => ∃ a C dx fs v, x = .ref a ∧ H1 a = some (.ins C dx fs) ∧ Cls K C ∧ NoAttr K C f ∧ fs.lookup f = some v ∧
 tv σ H1 fun y H2 => rd v y H2 fun z H3 => ∃ dx' fs', H3 a = some (.ins C dx' fs') ∧ fs'.length < 1000 ∧ D.nx σ (upd H3 a (.ins C dx' (putF f z fs')))
section
variable {X : Cx} {o e value : Expr} {f : Str} {pos pos' tpos : Pos} {ta tv : TE}
theorem pe_fld (he : PE X e ta) (hb : attributeBase e f X.env (eval e X.env) = eval e X.env) : PE X (.Attribute e f pos) (tFld X.K ta f) := by
 intro pins s σ H Q I h
 refine attr_of hb (thn (he pins s σ H _ I h) fun u s1 ⟨x, H1, I1, rx, a, C, dx, fs, v, ex, ea, c, n, l, q⟩ => ?_)
 subst ex
 obtain rfl : u = Value.ref a := rx
 exact getattr_ok I1 ea c n l fun u' s2 I2 ru => ⟨v, H1, I2, ru, q⟩
theorem ps_fld (ha : PE X o ta) (hv : PE X value tv) (hs : swapsWith value (some (.Attribute o f pos')) pos.line X.env = pure false) : PS X (.Assign [.Attribute o f pos'] value pos) (sFld X.K ta tv f) := by
 intro pins s σ H D I h
 refine plainObj_wpAny_Assign_Attribute (thn (hv pins s σ H _ I h) fun u s1 ⟨y, H1, I1, ry, q⟩ => thn (ha pins s1 σ H1 _ I1 q) fun ov s2 ⟨x, H2, I2, rx, a, C, dx, fs, ex, ea, c, n, l, q2⟩ => ?_) hs
 subst ex
 obtain rfl : ov = Value.ref a := rx
 exact setattr_ok I2 ea c n l ry fun s3 I3 => ⟨σ, _, I3, q2⟩
theorem ps_fldaug {op : Operator} {rd : V → V → Hp → VK → Prop} (ha : PE X o ta) (hv : PE X value tv) (hop : InOp X op rd) : PS X (.AugAssign (.Attribute o f tpos) op value pos) (sFldAug X.K ta tv rd f) := by
 intro pins s σ H D I h
 refine wpAny_AugAssign_AttributeAny (thn (ha pins s σ H _ I h) fun ov s1 ⟨x, H1, I1, rx, a, C, dx, fs, v, ex, ea, c, n, l, q⟩ => ?_)
 subst ex
 obtain rfl : ov = Value.ref a := rx
 refine getattr_ok I1 ea c n l fun u s2 I2 ru => thn (hv pins s2 σ H1 _ I2 q) fun w3 s3 ⟨y, H2, I3, ry, q3⟩ => thn (hop pins s3 σ H2 v y u w3 _ I3 ru ry q3) fun w4 s4 ⟨z, H3, I4, rz, dx', fs', ea', l', q4⟩ => ?_
 exact setattr_ok I4 ea' c n l' rz fun s5 I5 => ⟨σ, _, I5, q4⟩
def rAdd : V → V → Hp → VK → Prop := fun x y H Q => ∃ i j, x = .int i ∧ y = .int j ∧ Q (.int (i + j)) H
theorem in_add : InOp X .Add rAdd := by
 rintro pins s σ H x y u v Q I rx ry ⟨i, j, rfl, rfl, q⟩
 obtain ⟨t, rfl⟩ := (show ∃ t, u = Value.int i t from rx)
 obtain ⟨t', rfl⟩ := (show ∃ t', v = Value.int j t' from ry)
 exact PyProof.Rows.iadd_int ⟨.int (i + j), H, I.tok _, ⟨_, rfl⟩, q⟩
end
section
variable {X : Cx} {pins : List (Addr × Obj)} {σ : St} {H : Hp} {s : Shared} {A : Around} {E : Value → Shared → Prop} {Q : Value → Shared → Prop} {c : Value} {b : Bool}
end
end L2
namespace L2
open PySem PySem.Spec PyProof.Rows
structure Room (k : Nat) (A : Around) : Prop where
 hd : A.handled = none
 dp : A.depth + 3 * k + 5 < recursionLimit
 un : A.units + 16 * k + 200 < cLine
theorem Room.mono {j k : Nat} {A : Around} (r : Room k A) (h : j ≤ k) : Room j A := ⟨r.hd, by have := r.dp; omega, by have := r.un; omega⟩
theorem Room.deeper {k : Nat} {A : Around} (r : Room (k + 1) A) (env : Env) : Room k (A.deeper env) :=
 ⟨r.hd, by have := r.dp; show A.depth + 1 + 3 * k + 5 < _; omega, by have := r.un; show A.units + 3 + 16 * k + 200 < _; omega⟩
theorem make_depth {A : Around} {C : Addr} {us : List Value} {kw : List (Str × Value)} : (A.under (.builtin "type.__call__" ⟨.ref C :: us, kw⟩)).depth = A.depth + 1 := by
 first | rfl | simp [Around.under, Code.weight, Code.isCreation, Code.isGuard, Code.isCaller, Code.frames, Code.isFrame, guardIds]
theorem make_units {A : Around} {C : Addr} {us : List Value} {kw : List (Str × Value)} : (A.under (.builtin "type.__call__" ⟨.ref C :: us, kw⟩)).units = A.units + 1 := by
 first | rfl | simp [Around.under, Code.cUnits, Code.frames, Code.isFrame]
theorem Room.make {k : Nat} {A : Around} (r : Room (k + 1) A) (C : Addr) (us : List Value) (kw : List (Str × Value)) : Room k (A.under (.builtin "type.__call__" ⟨.ref C :: us, kw⟩)) :=
 ⟨r.hd, by have := r.dp; rw [make_depth]; omega, by have := r.un; rw [make_units]; omega⟩
theorem Room.depth {k : Nat} {A : Around} (r : Room k A) : A.depth < recursionLimit := by have := r.dp; omega
theorem Room.units {k : Nat} {A : Around} (r : Room k A) : A.units + 64 < cLine := by have := r.un; omega
def tNil : TA := fun _ H Q => Q [] H
def tCons (ta : TE) (tr : TA) : TA := fun σ H Q => ta σ H fun x H1 => tr σ H1 fun xs H2 => Q (x :: xs) H2
section
variable {X : Cx} {e : Expr} {es : List Expr} {te : TE} {t : TA} {pos : Pos}
theorem pZ : PA X [] tNil := fun _ _ _ _ H Q I h => Calls.spliced_nil ⟨[], H, I, .nil, h⟩
theorem pA (ha : PE X e te) (hr : PA X es t) (hs : starEach (e :: es) X.env = (false, eval e X.env) :: starEach es X.env := by rfl) : PA X (e :: es) (tCons te t) := by
 intro pos pins s σ H Q I h
 rw [hs]
 show wpAny _ _ (spliced ((false, eval e X.env) :: backTo pos (starEach es X.env))) _ _ s
 refine Calls.spliced_cons (thn (ha pins s σ H _ I h) fun u s1 ⟨x, H1, I1, r1, q1⟩ => ?_)
 exact thn (hr pos pins s1 σ H1 _ I1 q1) fun us s2 ⟨xs, H2, I2, r2, q2⟩ => ⟨x :: xs, H2, I2, .cons r1 r2, q2⟩
def tTup (t : TA) : TE := fun σ H Q => t σ H fun xs H1 => xs.length ≤ sizeLine ∧ ∀ p, H1 p = none → Q (.ref p) (upd H1 p (.tup xs))
def tLst (t : TA) : TE := fun σ H Q => t σ H fun xs H1 => xs.length ≤ sizeLine ∧ ∀ p, H1 p = none → Q (.ref p) (upd H1 p (.lst xs))
theorem pe_tup {x1} (h : PA X es t) : PE X (.Tuple es x1 pos) (tTup t) := by
 intro pins s σ H Q I hq
 refine wpAny_Tuple_spliced (thn (h pos pins s σ H _ I hq) fun us s1 ⟨xs, H1, I1, r, z, q⟩ => ⟨by rw [← r.length]; exact z, ?_⟩)
 have hf : H1 s1.heap.objs.size = none := I1.hok.fresh (Nat.le_refl _)
 refine ⟨.ref s1.heap.objs.size, upd H1 s1.heap.objs.size (.tup xs), I1.laid (t' := s1.toks) (fun b u e => Heap.get?_push_of_some _ e) (Nat.le_refl _) ?_, rfl, q _ hf⟩
 exact ⟨z, us, r, ⟨_, Heap.get?_push_size _ rfl, rfl, _, rfl⟩⟩
theorem pe_lst (h : PA X es t) : PE X (.List es pos) (tLst t) := by
 intro pins s σ H Q I hq
 refine wpAny_List_spliced (thn (h pos pins s σ H _ I hq) fun us s1 ⟨xs, H1, I1, r, z, q⟩ => ⟨by rw [← r.length]; exact z, ?_⟩)
 have hf : H1 s1.heap.objs.size = none := I1.hok.fresh (Nat.le_refl _)
 refine ⟨.ref s1.heap.objs.size, upd H1 s1.heap.objs.size (.lst xs), I1.laid (t' := s1.toks) (fun b u e => Heap.get?_push_of_some _ e) (Nat.le_refl _) ?_, rfl, q _ hf⟩
 exact ⟨z, us, 0, r, Heap.get?_push_size _ rfl⟩
end
abbrev Sp := List V → Hp → VK → XK → Prop
abbrev CXT := List Env → Hp → Shared → XK → Value → Shared → Prop
structure Env0 (P : Program) (w : World) (K : W.Frag) (mg : Str → Option Value) (base : Heap) (A : Around) (outer : List Env) (s : Shared) (H : Hp) : Prop where
 frames : A.frames = some outer
 mod : Mod K mg base
 bs : ∀ b o, base.get? b = some o → s.heap.get? b = some o ∧ H b = none
 bsz : base.objs.size ≤ s.heap.objs.size
 funs : s.heap.FunFrames base outer
 frf : ∀ b ∈ frs outer, H b = none
 hok : HOk P w H s.heap
 bare : AllBare s.gens
def CE (outer : List Env) (P : Program) (w : World) (H : Hp) (s : Shared) (Q : VK) (u : Value) (s' : Shared) : Prop :=
 ∃ v H', s'.os = s.os ∧ AllBare s'.gens ∧ Un (frs outer) [] H H' s.heap s'.heap ∧ HOk P w H' s'.heap ∧ RelV v u ∧ Q v H'
def CR (CX : CXT) (outer : List Env) (P : Program) (w : World) (H : Hp) (s : Shared) (Q : VK) (E : XK) (r : Result) (s' : Shared) : Prop :=
 match r with
 | .ok (.ret u) => CE outer P w H s Q u s'
 | .ok _ => False
 | .error e => CX outer H s E e s'
structure FnOk (P : Program) (w : World) (K : W.Frag) (mg : Str → Option Value) (base : Heap) (CX : CXT) (k : Nat) (f : Addr) (fd : FuncData) (ps : List Str) (sp : Sp) : Prop where
 len : ∀ vs H Q E, sp vs H Q E → vs.length = ps.length
 run : ∀ (A : Around) (outer : List Env) (s : Shared) (H : Hp) (args : Args) (us : List Value) (vs : List V) (Q : VK) (E : XK), Room k A → Env0 P w K mg base A outer s H → BindsTo s fd args (ps.zip us) → Vals vs us → sp vs H Q E →
  codeAny (model P w) A (.call (.ref f) args) (CR CX outer P w H s Q E) s
theorem FnOk.mono {P : Program} {w : World} {K : W.Frag} {mg : Str → Option Value} {base : Heap} {CX : CXT} {j k : Nat} {f : Addr} {fd : FuncData} {ps : List Str} {sp : Sp} (F : FnOk P w K mg base CX j f fd ps sp) (h : j ≤ k) :
  FnOk P w K mg base CX k f fd ps sp := ⟨F.len, fun A outer s H args us vs Q E hr => F.run A outer s H args us vs Q E (hr.mono h)⟩
theorem FnOk.imp {P : Program} {w : World} {K : W.Frag} {mg : Str → Option Value} {base : Heap} {CX : CXT} {k : Nat} {f : Addr} {fd : FuncData} {ps : List Str} {sp sp' : Sp} (F : FnOk P w K mg base CX k f fd ps sp)
  (h : ∀ vs H Q E, sp' vs H Q E → sp vs H Q E) : FnOk P w K mg base CX k f fd ps sp' :=
 ⟨fun vs H Q E q => F.len vs H Q E (h _ _ _ _ q), fun A outer s H args us vs Q E hr he hb hv hs => F.run A outer s H args us vs Q E hr he hb hv (h _ _ _ _ hs)⟩
theorem Env0.make {P : Program} {w : World} {K : W.Frag} {mg : Str → Option Value} {base : Heap} {A : Around} {outer : List Env} {s : Shared} {H : Hp} (e : Env0 P w K mg base A outer s H) (C : Addr) (us : List Value) (kw : List (Str × Value)) :
  Env0 P w K mg base (A.under (.builtin "type.__call__" ⟨.ref C :: us, kw⟩)) outer s H := ⟨by first | exact e.frames | (simpa [Around.under, Code.envs, Code.isFrame, pushEnvs] using e.frames), e.mod, e.bs, e.bsz, e.funs, e.frf, e.hok, e.bare⟩
section
variable {X : Cx} {pins : List (Addr × Obj)} {σ : St} {H : Hp} {s s' : Shared}
theorem Inv.env0 (I : Inv X pins σ H s) : Env0 X.prog X.w X.K X.mg X.base X.A X.stack s H :=
 ⟨I.ok.frames, I.ok.mod, I.bs, Nat.le_trans I.ok.bsz I.sz, I.stack, I.stkFree, I.hok, I.bare⟩
theorem Inv.after {Q : VK} {u : Value} (I : Inv X pins σ H s) (h : CE X.stack X.prog X.w H s Q u s') : EP X pins σ Q u s' := by
 obtain ⟨v, H', os, bare, un, hok, r, q⟩ := h
 obtain ⟨hh, g, d, t, os'⟩ := s'
 obtain rfl : os' = s.os := os
 exact ⟨v, H', I.call (h' := hh) (g' := g) (d' := d) (t' := t) (ch := []) un hok bare (fun b z => absurd z (by simp)), r, q⟩
end
def tCall (sp : Sp) (dvs : List V) (E : XK) (t : TA) : TE := fun σ H Q => t σ H fun vs H1 => sp (vs ++ dvs) H1 Q E
def tMeth (C : Addr) (m : Str) (sp : Sp) (dvs : List V) (E : XK) (ta : TE) (t : TA) : TE := fun σ H Q => ta σ H fun x H1 => ∃ a dx fs, x = .ref a ∧ H1 a = some (.ins C dx fs) ∧ fs.lookup m = none ∧
 t σ H1 fun vs H2 => sp (x :: (vs ++ dvs)) H2 Q E
def tMake (C : Addr) (sp : Sp) (dvs : List V) (E : XK) (t : TA) : TE := fun σ H Q => t σ H fun vs H1 => ∀ x dx, H1 x = none → H1 dx = none → dx ≠ x →
 sp (.ref x :: (vs ++ dvs)) (upd (upd H1 dx (.own x)) x (.ins C dx [])) (fun v H2 => v = .non ∧ Q (.ref x) H2) E
def Binds (K : W.Frag) (fd : FuncData) (ps : List Str) (ds : List Value) : Prop :=
 ∀ (s : Shared) (us : List Value), K.In s.heap → (us ++ ds).length = ps.length → BindsTo s fd ⟨us, []⟩ (ps.zip (us ++ ds))
theorem Binds.all {K : W.Frag} {fd : FuncData} {ps : List Str} (h : ∀ us : List Value, us.length = ps.length → bindArgs fd ⟨us, []⟩ = pure (ps.zip us)) : Binds K fd ps [] := fun s us _ hl => by
 rw [List.append_nil] at hl ⊢
 exact .of_eq (h us hl)
def Passes (CX : CXT) (X : Cx) (E : XK) : Prop := ∀ (pins : List (Addr × Obj)) (σ : St) (H : Hp) (s : Shared) (e : Value) (s' : Shared), Inv X pins σ H s → CX X.stack H s E e s' → X.xe e s'
section
variable {X : Cx} {CX : CXT} {k : Nat} {f C : Addr} {fd : FuncData} {ps : List Str} {sp : Sp} {dvs : List V} {ds : List Value} {E : XK} {x m : Str} {p pos apos : Pos} {e o : Expr} {es : List Expr} {ta : TE} {t : TA}
theorem run_fn {pins : List (Addr × Obj)} {σ : St} {H : Hp} {s : Shared} {Q : VK} {us : List Value} {vs : List V} (F : FnOk X.prog X.w X.K X.mg X.base CX k f fd ps sp) (hr : Room k X.A) (hb : Binds X.K fd ps ds) (hd : Vals dvs ds) (hx : Passes CX X E)
  (I : Inv X pins σ H s) (r : Vals vs us) (h : sp (vs ++ dvs) H Q E) : wpAny (model X.prog X.w) X.A (call (.ref f) us) (EP X pins σ Q) X.xe s := by
 have r2 : Vals (vs ++ dvs) (us ++ ds) := r.append hd
 have hl : (us ++ ds).length = ps.length := by rw [← r2.length]; exact F.len _ _ _ _ h
 refine wpAny_call (codeAny_mono (F.run X.A X.stack s H ⟨us, []⟩ (us ++ ds) (vs ++ dvs) Q E hr I.env0 (hb s us I.kIn hl) r2 h) fun r s' hq => ?_)
 cases r with
 | error e => exact hx pins σ H s e s' I hq
 | ok fl =>
  cases fl with
  | ret u => exact I.after hq
  | next => exact False.elim hq
  | brk => exact False.elim hq
  | cont => exact False.elim hq
theorem pe_call (F : FnOk X.prog X.w X.K X.mg X.base CX k f fd ps sp) (hr : Room k X.A) (hg : Gl X x) (hm : X.mg x = some (.ref f)) (hk : W.keepIn X.K (.ref f) = true) (hb : Binds X.K fd ps ds) (hd : Vals dvs ds) (hx : Passes CX X E)
  (ha : PA X (e :: es) t) (hdb : (x == ("__debug__" : Str)) = false := by decide) (he : starEach (e :: es) X.env = (false, eval e X.env) :: starEach es X.env := by rfl) (hpl : (backTo pos (starEach es X.env)).any (·.1) = false := by rfl) :
  PE X (.Call (.Name x p) (e :: es) [] pos) (tCall sp dvs E t) := by
 intro pins s σ H Q I h
 refine wpAny_Call_Name_kw (ld_glob I hg hm ?_ hdb)
 refine W.callWith_K (h₀ := X.base) I.ok.mod.kin hk (thn (ha pos pins s σ H _ I h) fun us s1 ⟨vs, H1, I1, r, q⟩ => ⟨I1.kIn, ?_⟩) he hpl
 exact run_fn F hr hb hd hx I1 r q
theorem pe_meth {pl : Sem Bool} (he : PE X o ta) (c : Cls X.K C) (hm : Meth X.K C m f) (F : FnOk X.prog X.w X.K X.mg X.base CX k f fd ps sp) (hr : Room k X.A) (hb : Binds X.K fd ps ds) (hd : Vals dvs ds) (hx : Passes CX X E) (ha : PA X (e :: es) t)
  (hst : starEach (e :: es) X.env = (false, eval e X.env) :: starEach es X.env := by rfl) (hpl : (backTo pos (starEach es X.env)).any (·.1) = false := by rfl)
  (ht : eval (.Call (.Attribute o m apos) (e :: es) [] pos) X.env = (do
   let ov ← eval o X.env
   standAt apos.atName
   let (f, first) ← holding [ov] (getMethod ov m pl)
   callWith pos f first (backTo pos (starEach (e :: es) X.env)) (backToKw pos (keywordEach [] X.env))) := by rfl) :
  PE X (.Call (.Attribute o m apos) (e :: es) [] pos) (tMeth C m sp dvs E ta t) := by
 intro pins s σ H Q I h
 refine W.methodCall_KW (pl := pl) (thn (he pins s σ H _ I h) fun u s1 ⟨x, H1, I1, rx, a, dx, fs, ex, ea, l, q⟩ => ?_) ht
 subst ex
 obtain rfl : u = Value.ref a := rx
 refine getmeth_ok I1 ea c hm l ?_
 refine W.callWith_K (first := [.ref a]) (h₀ := X.base) I.ok.mod.kin hm.kp (thn (ha pos pins s1 σ H1 _ I1 q) fun us s2 ⟨vs, H2, I2, r, q2⟩ => ⟨I2.kIn, ?_⟩) hst hpl
 exact run_fn (us := .ref a :: us) (vs := .ref a :: vs) F hr hb hd hx I2 (.cons rfl r) q2
theorem pe_meth0 {pl : Sem Bool} (he : PE X o ta) (c : Cls X.K C) (hm : Meth X.K C m f) (F : FnOk X.prog X.w X.K X.mg X.base CX k f fd ps sp) (hr : Room k X.A) (hb : Binds X.K fd ps ds) (hd : Vals dvs ds) (hx : Passes CX X E)
  (ht : eval (.Call (.Attribute o m apos) [] [] pos) X.env = (do
   let ov ← eval o X.env
   standAt apos.atName
   let (f, first) ← holding [ov] (getMethod ov m pl)
   callWith pos f first (backTo pos (starEach [] X.env)) (backToKw pos (keywordEach [] X.env))) := by rfl) :
  PE X (.Call (.Attribute o m apos) [] [] pos) (tMeth C m sp dvs E ta tNil) := by
 intro pins s σ H Q I h
 refine W.methodCall_KW (pl := pl) (thn (he pins s σ H _ I h) fun u s1 ⟨x, H1, I1, rx, a, dx, fs, ex, ea, l, q⟩ => ?_) ht
 subst ex
 obtain rfl : u = Value.ref a := rx
 refine getmeth_ok I1 ea c hm l ?_
 exact W.callWith_K0 (first := [.ref a]) I1.kIn hm.kp (run_fn (us := [.ref a]) (vs := [.ref a]) F hr hb hd hx I1 (.cons rfl .nil) q)
structure Mk (K : W.Frag) (C f : Addr) : Prop where
 makes : W.makesIn K C = true
 init : W.findIn K (.ref C) "__init__" = some (some (.ref f))
 fn : W.isFn K (.ref f) = true
 kp : W.keepIn K (.ref C) = true
theorem run_make {pins : List (Addr × Obj)} {σ : St} {H : Hp} {s : Shared} {Q : VK} {us : List Value} {vs : List V} (M : Mk X.K C f) (F : FnOk X.prog X.w X.K X.mg X.base CX k f fd ps sp) (hr : Room (k + 1) X.A) (hb : Binds X.K fd ps ds) (hd : Vals dvs ds)
  (hx : Passes CX X E) (I : Inv X pins σ H s) (r : Vals vs us)
  (h : ∀ x dx, H x = none → H dx = none → dx ≠ x → sp (.ref x :: (vs ++ dvs)) (upd (upd H dx (.own x)) x (.ins C dx [])) (fun v H2 => v = .non ∧ Q (.ref x) H2) E) :
  wpAny (model X.prog X.w) X.A (call (.ref C) us) (EP X pins σ Q) X.xe s := by
 have hq := h (s.heap.objs.size + 1) s.heap.objs.size (I.hok.fresh (Nat.le_succ _)) (I.hok.fresh (Nat.le_refl _)) (Nat.ne_of_lt (Nat.lt_succ_self _))
 have I2 := Inv.made (C := C) I
 have r2 : Vals (V.ref (s.heap.objs.size + 1) :: (vs ++ dvs)) (Value.ref (s.heap.objs.size + 1) :: (us ++ ds)) := .cons rfl (r.append hd)
 have hl : (Value.ref (s.heap.objs.size + 1) :: us ++ ds).length = ps.length := by
  have e := r2.length
  rw [F.len _ _ _ _ hq] at e
  exact e.symm
 refine wpAny_call (make_map (f := f) I.kIn M.makes M.init (beq_iff_eq.mp M.fn) (codeAny_mono (F.run _ X.stack _ _ ⟨Value.ref (s.heap.objs.size + 1) :: us, []⟩ (Value.ref (s.heap.objs.size + 1) :: (us ++ ds)) _ _ E (hr.make C us [])
  (I2.env0.make C us []) (hb _ (Value.ref (s.heap.objs.size + 1) :: us) I2.kIn hl) r2 hq) fun r s' hq' => ?_))
 cases r with
 | error e => exact hx pins σ _ _ e s' I2 hq'
 | ok fl =>
  cases fl with
  | ret u =>
   obtain ⟨v, H', I3, rv, ev, q3⟩ := I2.after hq'
   subst ev
   exact ⟨rv, ⟨V.ref (s.heap.objs.size + 1), H', I3, rfl, q3⟩⟩
  | next => exact False.elim hq'
  | brk => exact False.elim hq'
  | cont => exact False.elim hq'
theorem pe_make (M : Mk X.K C f) (F : FnOk X.prog X.w X.K X.mg X.base CX k f fd ps sp) (hr : Room (k + 1) X.A) (hg : Gl X x) (hm : X.mg x = some (.ref C)) (hb : Binds X.K fd ps ds) (hd : Vals dvs ds) (hx : Passes CX X E)
  (ha : PA X (e :: es) t) (hdb : (x == ("__debug__" : Str)) = false := by decide) (he : starEach (e :: es) X.env = (false, eval e X.env) :: starEach es X.env := by rfl) (hpl : (backTo pos (starEach es X.env)).any (·.1) = false := by rfl) :
  PE X (.Call (.Name x p) (e :: es) [] pos) (tMake C sp dvs E t) := by
 intro pins s σ H Q I h
 refine wpAny_Call_Name_kw (ld_glob I hg hm ?_ hdb)
 refine W.callWith_K (h₀ := X.base) I.ok.mod.kin M.kp (thn (ha pos pins s σ H _ I h) fun us s1 ⟨vs, H1, I1, r, q⟩ => ⟨I1.kIn, ?_⟩) he hpl
 exact run_make M F hr hb hd hx I1 r q
theorem pe_make0 (M : Mk X.K C f) (F : FnOk X.prog X.w X.K X.mg X.base CX k f fd ps sp) (hr : Room (k + 1) X.A) (hg : Gl X x) (hm : X.mg x = some (.ref C)) (hb : Binds X.K fd ps ds) (hd : Vals dvs ds) (hx : Passes CX X E)
  (hdb : (x == ("__debug__" : Str)) = false := by decide) : PE X (.Call (.Name x p) [] [] pos) (tMake C sp dvs E tNil) := by
 intro pins s σ H Q I h
 refine wpAny_Call_Name_kw (ld_glob I hg hm ?_ hdb)
 exact W.callWith_K0 I.kIn M.kp (run_make (us := []) M F hr hb hd hx I .nil h)
end
def PK (X : Cx) (kws : List Keyword) (t : TA) : Prop :=
 ∀ (pos : Pos) (pins : List (Addr × Obj)) (s : Shared) (σ : St) (H : Hp) (Q : List V → Hp → Prop), Inv X pins σ H s → t σ H Q → wpAny (model X.prog X.w) X.A (evalAll ((backToKw pos (keywordEach kws X.env)).map (·.2))) (AP X pins σ Q) X.xe s
section
variable {X : Cx} {CX : CXT} {k : Nat} {f C : Addr} {fd : FuncData} {ps ks : List Str} {sp : Sp} {E : XK} {x m : Str} {p pos apos kpos : Pos} {e o : Expr} {es : List Expr} {kws : List Keyword} {te ta : TE} {t tk : TA} {nm : Option Str}
theorem pk_nil : PK X [] tNil := fun _ _ _ _ H Q I h => wpAny_evalAll_nil ⟨[], H, I, .nil, h⟩
theorem pk_cons (ha : PE X e te) (hr : PK X kws t) : PK X (⟨nm, e, kpos⟩ :: kws) (tCons te t) := by
 intro pos pins s σ H Q I h
 show wpAny _ _ (evalAll ((do let v ← eval e X.env; standAt pos; pure v) :: (backToKw pos (keywordEach kws X.env)).map (·.2))) _ _ s
 refine wpAny_evalAll_cons (wpAny_bind (thn (ha pins s σ H _ I h) fun u s1 ⟨x, H1, I1, r1, q1⟩ => wpAny_bind (wpAny_standAt (wpAny_pure ?_))))
 exact thn (hr pos pins s1 σ H1 _ I1 q1) fun us s2 ⟨xs, H2, I2, r2, q2⟩ => ⟨x :: xs, H2, I2, .cons r1 r2, q2⟩
variable {g : List Value → List Value → List Value} {gV : List V → List V → List V}
end
structure FnScope (N P : List Str) (sc : Scope) : Prop where
 kind : sc.kind = .function
 co : sc.isCoroutine = false
 gen : sc.isGenerator = false
 nd : N.Nodup
 pre : N.take P.length = P
 par : ∀ x ∈ P, sc.names.lookup x = some .local ∨ sc.names.lookup x = some .cell
 nofree : ∀ y ∈ sc.names, y.2 ≠ .free
theorem bindL_out {kindOf : Str → Option NameKind} {x : Str} : ∀ {binds : List (Str × Value)} {m : Str → Option Value}, (∀ v, (x, v) ∉ binds) → bindL kindOf binds m x = m x
 | [], _, _ => rfl
 | (n, v) :: r, m, h => by
  unfold bindL
  rw [bindL_out fun w hw => h w (List.mem_cons_of_mem _ hw)]
  split
  ·have : x ≠ n := by rintro rfl; exact h v List.mem_cons_self
   simp [this]
  ·rfl
theorem bindC_out {kindOf : Str → Option NameKind} {x : Str} : ∀ {binds : List (Str × Value)} {m : Str → Option Value}, (∀ v, (x, v) ∉ binds) → bindC kindOf binds m x = m x
 | [], _, _ => rfl
 | (n, v) :: r, m, h => by
  unfold bindC
  rw [bindC_out fun w hw => h w (List.mem_cons_of_mem _ hw)]
  split
  ·rfl
  ·have : x ≠ n := by rintro rfl; exact h v List.mem_cons_self
   simp [this]
theorem bindL_get {kindOf : Str → Option NameKind} {x : Str} {v : Value} : ∀ {P : List Str} {vs : List Value} {i : Nat} {m : Str → Option Value}, P.Nodup → P[i]? = some x → vs[i]? = some v → kindOf x = some .local →
  bindL kindOf (P.zip vs) m x = some v
 | [], _, _, _, _, h, _, _ => by simp at h
 | _ :: _, [], _, _, _, _, h, _ => by simp at h
 | p :: P, w :: vs, 0, m, nd, h1, h2, hk => by
  simp at h1 h2; subst h1; subst h2
  show bindL kindOf ((p, w) :: P.zip vs) m p = _
  unfold bindL
  rw [bindL_out fun v hv => (List.nodup_cons.mp nd).1 (List.of_mem_zip hv).1, if_pos hk]
  simp
 | p :: P, w :: vs, i + 1, m, nd, h1, h2, hk => by
  show bindL kindOf ((p, w) :: P.zip vs) m x = _
  unfold bindL
  exact bindL_get (i := i) (List.nodup_cons.mp nd).2 (by simpa using h1) (by simpa using h2) hk
theorem bindC_get {kindOf : Str → Option NameKind} {x : Str} {v : Value} : ∀ {P : List Str} {vs : List Value} {i : Nat} {m : Str → Option Value}, P.Nodup → P[i]? = some x → vs[i]? = some v → kindOf x ≠ some .local →
  bindC kindOf (P.zip vs) m x = some v
 | [], _, _, _, _, h, _, _ => by simp at h
 | _ :: _, [], _, _, _, _, h, _ => by simp at h
 | p :: P, w :: vs, 0, m, nd, h1, h2, hk => by
  simp at h1 h2; subst h1; subst h2
  show bindC kindOf ((p, w) :: P.zip vs) m p = _
  unfold bindC
  rw [bindC_out fun v hv => (List.nodup_cons.mp nd).1 (List.of_mem_zip hv).1, if_neg hk]
  simp
 | p :: P, w :: vs, i + 1, m, nd, h1, h2, hk => by
  show bindC kindOf ((p, w) :: P.zip vs) m x = _
  unfold bindC
  exact bindC_get (i := i) (List.nodup_cons.mp nd).2 (by simpa using h1) (by simpa using h2) hk
def start (N : List Str) (vs : List V) : St := vs.map some ++ List.replicate (N.length - vs.length) none
def cxOf (CX : CXT) (P : Program) (w : World) (K : W.Frag) (mg : Str → Option Value) (base : Heap) (N : List Str) (qual : Str) (scope : Scope) (f : Addr) (cd : Value) (A : Around) (outer : List Env) (s : Shared) (H : Hp) (E : XK) : Cx where
 prog := P
 w := w
 K := K
 mg := mg
 base := base
 A := A.deeper (envOfC qual scope s.heap.objs.size f cd)
 N := N
 s_0 := s
 H_0 := H
 env := envOfC qual scope s.heap.objs.size f cd
 outer := outer
 stack := envOfC qual scope s.heap.objs.size f cd :: outer
 ex := []
 calm := true
 fn := fun _ => true
 pn := []
 xe := fun e s' => wpAny (model P w) (A.deeper (envOfC qual scope s.heap.objs.size f cd)) (leaving (envOfC qual scope s.heap.objs.size f cd) e) (fun _ s'' => CX outer H s E e s'') (fun e' s'' => CX outer H s E e' s'') s'
theorem cell_has {sc : Scope} {n : Nat} {x : Str} (h : sc.names.lookup x = some .cell) : ∃ c, (cellsFrom n sc.names []).lookup x = some c := by
 have q := W.cellsFrom_some sc.names n [] (.inl h)
 exact Option.isSome_iff_exists.mp q
theorem inv_start {CX : CXT} {P : Program} {w : World} {K : W.Frag} {mg : Str → Option Value} {base : Heap} {N ps : List Str} {qual : Str} {scope : Scope} {f : Addr} {cd : Value} {A : Around} {outer : List Env} {s s1 : Shared} {H : Hp} {E : XK} {us : List Value} {vs : List V}
  (S : FnScope N ps scope) (hd : A.handled = none) (e0 : Env0 P w K mg base A outer s H) (hl : vs.length = ps.length) (r : Vals vs us)
  (x : InCallC s s.heap.objs.size (bindL (envOfC qual scope s.heap.objs.size f cd).kindOf (ps.zip us) fun _ => none) (cellsFrom (s.heap.objs.size + 1) scope.names []) (bindC (envOfC qual scope s.heap.objs.size f cd).kindOf (ps.zip us) fun _ => none) s1) :
  Inv (cxOf CX P w K mg base N qual scope f cd A outer s H E) [] (start N vs) H s1 := by
 have hpl : ps.length ≤ N.length := by have := congrArg List.length S.pre; rw [List.length_take] at this; omega
 obtain ⟨h1, tk, rfl, hk⟩ := x.done
 have noA : ∀ b : Addr, b ∉ (cxOf CX P w K mg base N qual scope f cd A outer s H E).ex := fun b z => absurd (show b ∈ ([] : List Addr) from z) (by simp)
 refine ⟨⟨e0.mod, S.kind, rfl, rfl, Nat.le_refl _, fun y z c h1 h2 => ?_, fun y hy => ?_, fun y c _ h => ?_, fun _ => hd, Around.frames_deeper e0.frames, .inr ⟨rfl, rfl⟩, fun b z => absurd z (noA b), e0.bs, e0.bsz, fun b _ _ => noA b, fun b z => absurd z (noA b), e0.funs, e0.frf⟩,
  rfl, e0.bare, Un.kept hk, ⟨_, x.toInCall.ns, fun i y v h1 h2 h3 => ?_⟩, fun y c h => ⟨_, x.cell y c h⟩, e0.hok.fresh (Nat.le_refl _), fun y c h => ?_, fun p hp => absurd (show p ∈ ([] : List (Addr × Obj)) from hp) (by simp), e0.hok.kept hk, ?_⟩
 ·exact name_of_addr x.apart (PySem.mem_of_lookup h1) (PySem.mem_of_lookup h2)
 ·have hy : scope.names.lookup y = some .cell ∨ scope.names.lookup y = some .free := hy
  rcases hy with hy | hy
  ·exact cell_has hy
  ·exact absurd rfl (S.nofree _ (PySem.mem_of_lookup hy))
 ·exact Nat.le_of_lt (x.above y c (PySem.mem_of_lookup h))
 ·have hi : i < vs.length := by
   unfold start at h2
   by_cases hi : i < vs.length
   ·exact hi
   ·rw [List.getElem?_append_right (by simpa using hi)] at h2
    rw [List.getElem?_replicate] at h2
    split at h2 <;> cases h2
  have ha : vs[i]? = some v := by
   unfold start at h2
   rw [List.getElem?_append_left (by simpa using hi), List.getElem?_map] at h2
   cases e : vs[i]? with
   | none => rw [e] at h2; cases h2
   | some a => rw [e] at h2; cases h2; rfl
  obtain ⟨u, hu, rv⟩ := r.get ha
  have hp : ps[i]? = some y := by
   rw [← S.pre, List.getElem?_take_of_lt (by omega)]; exact h1
  have ndP : ps.Nodup := by rw [← S.pre]; exact S.nd.sublist (List.take_sublist _ _)
  refine ⟨u, rv, ?_⟩
  rcases S.par y (List.mem_of_getElem? hp) with k | k
  ·exact .inl ⟨k, bindL_get ndP hp hu k⟩
  ·obtain ⟨c, e⟩ := cell_has (n := s.heap.objs.size + 1) k
   refine .inr ⟨.inl k, c, e, ?_⟩
   have q := x.cell y c e
   rw [bindC_get ndP hp hu (by show scope.names.lookup y ≠ _; rw [k]; decide)] at q
   exact q
 ·exact e0.hok.fresh (Nat.le_of_lt (x.above y c (PySem.mem_of_lookup h)))
 ·unfold start
  show _ = N.length
  rw [List.length_append, List.length_map, List.length_replicate]
  omega
theorem fn_of {CX : CXT} {P : Program} {w : World} {K : W.Frag} {mg : Str → Option Value} {base : Heap} {k : Nat} {f : Addr} {name qual : Str} {params : Arguments} {body : List Stmt} {scope : Scope} {dV kV doc pm cdv ct oc : Value} {an od : Option Addr}
  {osl : Array (Option Value)} {N ps : List Str} {sp : Sp} (lk : K.lookup f = some ⟨oc, od, .func (W.fnOf name qual params body scope dV kV doc pm an cdv ct), osl⟩) (hcd : W.codeIn K cdv qual = true) (S : FnScope N ps scope)
  (len : ∀ vs H Q E, sp vs H Q E → vs.length = ps.length)
  (hbody : ∀ (A : Around) (outer : List Env) (s : Shared) (H : Hp) (vs : List V) (Q : VK) (E : XK), Room k (A.deeper (envOfC qual scope s.heap.objs.size f cdv)) → sp vs H Q E →
   ∃ t, PSs (cxOf CX P w K mg base N qual scope f cdv A outer s H E) body t ∧ t { nx := fun _ H' => Q .non H', rt := Q } (start N vs) H) :
  FnOk P w K mg base CX (k + 1) f (W.fnOf name qual params body scope dV kV doc pm an cdv ct) ps sp := by
 refine ⟨len, fun A outer s H args us vs Q E hr e0 hb r hsp => ?_⟩
 have hl := len _ _ _ _ hsp
 have KX : K.In s.heap := e0.mod.kin.keeps fun b o e => (e0.bs b o e).1
 have lim : s.heap.NoLimit := e0.mod.nolimit.keeps fun b o e => (e0.bs b o e).1
 have hkind : ∀ y ∈ ps.zip us, scope.names.lookup y.1 = some .local ∨ (scope.names.lookup y.1 = some .cell ∧ ((cellsFrom (s.heap.objs.size + 1) scope.names []).lookup y.1).isSome = true) := fun ⟨n, v⟩ hy => by
  rcases S.par n (List.of_mem_zip hy).1 with q | q
  ·exact .inl q
  ·exact .inr ⟨q, W.cellsFrom_some _ _ _ (.inl q)⟩
 refine codeAny_call_function hr.depth (KX _ _ lk) rfl S.co S.gen rfl (W.codeRec_of KX hcd) (hb _ _ _ _ ?_)
 refine wpAny_newFunctionEnv_cells S.kind hkind fun env he s1 x => ?_
 subst he
 refine ⟨lim.keeps x.toInCall.keep, codeAny_func ?_⟩
 obtain ⟨t, ht, hq⟩ := hbody A outer s H vs Q E (hr.deeper _) hsp
 have I : Inv (cxOf CX P w K mg base N qual scope f cdv A outer s H E) [] (start N vs) H s1 := inv_start S hr.hd e0 hl r x
 refine wpAny_mono (ht [] s1 (start N vs) H _ I hq) (fun fl s' hs => ?_) fun e s' hs => hs
 have fin : ∀ {σ' : St} {H' : Hp} {v : V} {u : Value}, Inv (cxOf CX P w K mg base N qual scope f cdv A outer s H E) [] σ' H' s' → RelV v u → Q v H' → CE outer P w H s Q u s' :=
  fun {σ' H' v u} J rv q => ⟨v, H', J.os, J.bare, J.base, J.hok, rv, q⟩
 cases fl with
 | ret u =>
  obtain ⟨v, σ', H', J, rv, q⟩ := hs
  exact fin J rv q
 | next =>
  obtain ⟨σ', H', J, q⟩ := hs
  exact fin (v := V.non) (u := Value.none) J rfl q
 | brk =>
  obtain ⟨_, _, _, q⟩ := hs
  exact False.elim q
 | cont =>
  obtain ⟨_, _, _, q⟩ := hs
  exact False.elim q
end L2
namespace L2
open PySem PySem.Spec PyProof.Rows
section
variable {X : Cx} {x : Str} {p pos : Pos} {e : Expr} {es : List Expr} {t : TA} {id T : String} {r : List V → Hp → VK → Prop}
def tCB (r : List V → Hp → VK → Prop) (t : TA) : TE := fun σ H Q => t σ H fun vs H1 => r vs H1 Q
theorem pe_callB (hc : CallR X (.builtin id) r) (hg : Gl X x) (hm : X.mg x = none) (hv : bootBuiltins x = some (.builtin id)) (ha : PA X (e :: es) t) (hn : x ≠ "__name__" := by decide) (hdb : (x == ("__debug__" : Str)) = false := by decide)
  (he : starEach (e :: es) X.env = (false, eval e X.env) :: starEach es X.env := by rfl) (hpl : (backTo pos (starEach es X.env)).any (·.1) = false := by rfl) : PE X (.Call (.Name x p) (e :: es) [] pos) (tCB r t) := by
 intro pins s σ H Q I h
 refine wpAny_Call_Name_kw (ld_blt I hg hm hv ?_ hn hdb)
 exact PyProof.Rows.callWith_builtin1 (thn (ha pos pins s σ H _ I h) fun us s1 ⟨vs, H1, I1, r1, q1⟩ => hc pins s1 σ H1 vs us Q I1 r1 q1) he hpl
theorem pe_callTy (hc : CallR X (.type T) r) (hg : Gl X x) (hm : X.mg x = none) (hv : bootBuiltins x = some (.type T)) (ha : PA X (e :: es) t) (hn : x ≠ "__name__" := by decide) (hdb : (x == ("__debug__" : Str)) = false := by decide)
  (he : starEach (e :: es) X.env = (false, eval e X.env) :: starEach es X.env := by rfl) (hpl : (backTo pos (starEach es X.env)).any (·.1) = false := by rfl) : PE X (.Call (.Name x p) (e :: es) [] pos) (tCB r t) := by
 intro pins s σ H Q I h
 refine wpAny_Call_Name_kw (ld_blt I hg hm hv ?_ hn hdb)
 exact PyProof.Rows.callWith_type1 (thn (ha pos pins s σ H _ I h) fun us s1 ⟨vs, H1, I1, r1, q1⟩ => hc pins s1 σ H1 vs us Q I1 r1 q1) he hpl
end
end L2
namespace HT
open PySem PyProof.Rows
section
open PySem.SeqAt
open PySem.AutoSeq1 (wpAny_loadPart')
open PySem.MeetsSeq PySem.MeetsSeq2 PySem.MeetsSeq3
end
section
variable {prog : Program} {w : World} {A : Around} {E : Value → Shared → Prop} {s : Shared}
def sIx (n d : Nat) : Option Int → Nat
 | none => d
 | some v => if v < 0 then (v + (n : Int)).toNat else min v.toNat n
theorem sIx_none (n d : Nat) : sIx n d none = d := rfl
theorem sIx_nat (n d k : Nat) : sIx n d (some (k : Int)) = min k n := by
 show (if (k : Int) < 0 then ((k : Int) + (n : Int)).toNat else min (k : Int).toNat n) = min k n
 rw [if_neg (by omega), Int.toNat_natCast]
end
end HT
namespace L2
open PySem PySem.Spec PyProof.Rows
abbrev TO := St → Hp → (Option Int → Hp → Prop) → Prop
def PO (X : Cx) (e : Option Expr) (t : TO) : Prop :=
 ∀ (pins : List (Addr × Obj)) (s : Shared) (σ : St) (H : Hp) (Q : Option Int → Hp → Prop), Inv X pins σ H s → t σ H Q →
  wpAny (model X.prog X.w) X.A (evalPart e X.env) (fun u s' => ∃ o H', Inv X pins σ H' s' ∧ IsPart u o ∧ Q o H') X.xe s
def tNoPart : TO := fun _ H Q => Q none H
def tPart (t : TE) : TO := fun σ H Q => t σ H fun x H1 => ∃ i, x = .int i ∧ Q (some i) H1
theorem intsAre_of {ns : List Int} : ∀ {us : List Value}, Vals (ns.map V.int) us → IntsAre us ns := by
 induction ns with
 | nil => intro us r; rw [List.map_nil] at r; cases r; exact .nil
 | cons n ns ih =>
  intro us r
  rw [List.map_cons] at r
  cases r with
  | cons r1 r2 =>
   obtain ⟨t, e⟩ := r1
   subst e
   exact .cons n t (ih r2)
section
variable {X : Cx} {e : Expr} {te : TE} {lo hi : Option Expr} {tl th : TO} {pos p2 : Pos}
theorem po_none : PO X none tNoPart := by
 intro pins s σ H Q I h
 rw [evalPart_none]
 exact wpAny_pure ⟨none, H, I, .none, h⟩
theorem po_some (h : PE X e te) : PO X (some e) (tPart te) := by
 intro pins s σ H Q I hw
 rw [evalPart_some]
 refine thn (h pins s σ H _ I hw) fun u s1 ⟨x, H1, I1, r1, q1⟩ => ?_
 obtain ⟨i, rfl, q⟩ := q1
 obtain ⟨t, rfl⟩ := r1
 exact ⟨some i, H1, I1, .int i t, q⟩
def SlR (X : Cx) (r : V → Option Int → Option Int → Hp → VK → Prop) : Prop :=
 ∀ (pins : List (Addr × Obj)) (s : Shared) (σ : St) (H : Hp) (x : V) (v vl vu : Value) (lo hi : Option Int) (sl : Addr) (Q : VK), Inv X pins σ H s → RelV x v → s.heap.IsSliceOf sl vl vu .none → IsPart vl lo → IsPart vu hi → r x lo hi H Q →
  ∃ T id, typeLookup (.type T) "__getitem__" = pure (some (.builtin id)) ∧ s.TypeIs v T ∧ wpAny (model X.prog X.w) X.A (getItem v (.ref sl)) (EP X pins σ Q) X.xe s
def tSl (r : V → Option Int → Option Int → Hp → VK → Prop) (te : TE) (tl th : TO) : TE := fun σ H Q => te σ H fun x H1 => tl σ H1 fun l H2 => th σ H2 fun u H3 => r x l u H3 Q
theorem pe_slice {r : V → Option Int → Option Int → Hp → VK → Prop} (hr : SlR X r) (he : PE X e te) (hl : PO X lo tl) (hu : PO X hi th) : PE X (.Subscript e (.Slice lo hi none p2) pos) (tSl r te tl th) := by
 intro pins s σ H Q I h
 refine Subscript_ (thn (he pins s σ H _ I h) fun v s1 ⟨x, H1, I1, r1, q1⟩ => ?_)
 refine wpAny_Slice (thn (hl pins s1 σ H1 _ I1 q1) fun vl s2 ⟨l, H2, I2, pl, q2⟩ => thn (hu pins s2 σ H2 _ I2 q2) fun vu s3 ⟨u, H3, I3, pu, q3⟩ => ?_)
 rw [evalPart_none]
 refine wpAny_pure ?_
 have I4 : Inv X pins σ H3 { s3 with heap := s3.heap.push { cls := .type "slice", data := .fields #[vl, vu, .none] } } := I3.kept (t' := s3.toks) fun b ob q => Heap.get?_push_of_some _ q
 obtain ⟨T, id, hT, ht, hg⟩ := hr pins { s3 with heap := s3.heap.push { cls := .type "slice", data := .fields #[vl, vu, .none] } } σ H3 x v vl vu l u s3.heap.objs.size Q I4 r1 (Heap.IsSliceOf.new ..) pl pu q3
 show wpAny (model X.prog X.w) X.A (subscriptTail e (.Slice lo hi none p2) v (.ref s3.heap.objs.size)) (EP X pins σ Q) X.xe { s3 with heap := s3.heap.push { cls := .type "slice", data := .fields #[vl, vu, .none] } }
 exact tail_any (ops := [.ref s3.heap.objs.size, v]) ht hT hg (by with_unfolding_all rfl)
def cutV (xs : List V) (lo hi : Option Int) : List V := (xs.drop (HT.sIx xs.length 0 lo)).take (HT.sIx xs.length xs.length hi - HT.sIx xs.length 0 lo)
theorem cutV_length (xs : List V) (lo hi : Option Int) : (cutV xs lo hi).length ≤ xs.length := by
 unfold cutV
 rw [List.length_take, List.length_drop]
 omega
end
end L2
namespace L2
open PySem PySem.Spec PyProof.Rows
def ixN (n : Nat) (i : Int) : Option Nat := if 0 ≤ i then (if i < n then some i.toNat else none) else if -(n : Int) ≤ i then some (i + n).toNat else none
def atI {α : Type} (xs : List α) (i : Int) : Option α := (ixN xs.length i).bind fun j => xs[j]?
theorem ixN_seq {n : Nat} {i : Int} {j : Nat} (h : ixN n i = some j) : seqIndex? i n = some j ∧ j < n ∧ -(n : Int) ≤ i ∧ i < n := by
 unfold ixN at h
 by_cases h0 : 0 ≤ i
 ·rw [if_pos h0] at h
  by_cases h1 : i < n
  ·rw [if_pos h1] at h
   have e : i.toNat = j := Option.some.inj h
   exact ⟨by rw [seqIndex_of h0 h1, e], by omega, by omega, h1⟩
  ·rw [if_neg h1] at h; cases h
 ·rw [if_neg h0] at h
  by_cases h1 : -(n : Int) ≤ i
  ·rw [if_pos h1] at h
   have e : (i + n).toNat = j := Option.some.inj h
   exact ⟨by rw [seqIndex_neg (by omega) h1, e], by omega, h1, by omega⟩
  ·rw [if_neg h1] at h; cases h
theorem atI_get {α : Type} {xs : List α} {i : Int} {v : α} (h : atI xs i = some v) : ∃ j, seqIndex? i xs.length = some j ∧ xs[j]? = some v ∧ j < xs.length ∧ -(xs.length : Int) ≤ i ∧ i < xs.length := by
 unfold atI at h
 cases e : ixN xs.length i with
 | none => rw [e] at h; cases h
 | some j =>
  rw [e] at h
  obtain ⟨h1, h2, h3, h4⟩ := ixN_seq e
  exact ⟨j, h1, h, h2, h3, h4⟩
theorem atI_nat {α : Type} {xs : List α} {j : Nat} {v : α} (h : xs[j]? = some v) : atI xs (j : Int) = some v := by
 have hj : j < xs.length := (List.getElem?_eq_some_iff.mp h).1
 have e : ixN xs.length (j : Int) = some j := by
  unfold ixN
  rw [if_pos (by omega), if_pos (by omega)]; simp
 unfold atI; rw [e]; exact h
theorem atI_last {α : Type} (xs : List α) (v : α) : atI (xs ++ [v]) (-1) = some v := by
 have hl : (xs ++ [v]).length = xs.length + 1 := by simp
 have e : ixN (xs ++ [v]).length (-1) = some xs.length := by
  unfold ixN
  rw [hl, if_neg (by decide), if_pos (by omega)]
  congr 1
  omega
 unfold atI
 rw [e]
 show (xs ++ [v])[xs.length]? = some v
 simp
def PlainIx (b : Expr) : Prop := ∀ o i, subscripted b false o i = operate [o, i] (getItem o i)
def IxR (X : Cx) (r : R2) : Prop :=
 ∀ (value slice : Expr) (pins : List (Addr × Obj)) (s : Shared) (σ : St) (H : Hp) (x y : V) (v u : Value) (Q : VK), Inv X pins σ H s → RelV x v → RelV y u → r x y H Q →
  subscripted slice false v u = operate [v, u] (getItem v u) → wpAny (model X.prog X.w) X.A (subscriptTail value slice v u) (EP X pins σ Q) X.xe s
def MtR (X : Cx) (id : String) (r : V → List V → Hp → VK → Prop) : Prop :=
 ∀ (pins : List (Addr × Obj)) (s : Shared) (σ : St) (H : Hp) (x : V) (xs : List V) (v : Value) (us : List Value) (Q : VK), Inv X pins σ H s → RelV x v → Vals xs us → r x xs H Q →
  wpAny (model X.prog X.w) X.A (call (.builtin id) (v :: us)) (EP X pins σ Q) X.xe s
section
variable {X : Cx} {a b : Expr} {ta tb : TE} {pos : Pos}
theorem pe_ix {r : R2} (hr : IxR X r) (ha : PE X a ta) (hb : PE X b tb) (hs : PlainIx b) : PE X (.Subscript a b pos) (tOp r ta tb) := by
 intro pins s σ H Q I h
 exact Subscript_ (binT ha hb I h fun v u s2 x y H2 I2 rx ry q => hr a b pins s2 σ H2 x y v u Q I2 rx ry q (hs _ _))
def rIxL (K : W.Frag) : R2 := fun x y H Q => ∃ p xs i v, x = .ref p ∧ y = .int i ∧ SqL K H p xs ∧ atI xs i = some v ∧ Q v H
def rIxT (K : W.Frag) : R2 := fun x y H Q => ∃ p xs i v, x = .ref p ∧ y = .int i ∧ SqT K H p xs ∧ atI xs i = some v ∧ Q v H
theorem ix_list : IxR X (rIxL X.K) := by
 intro value slice pins s σ H x y v u Q I rx ry h hs
 obtain ⟨p, xs, i, z, rfl, rfl, hq, he, q⟩ := h
 cases rx
 obtain ⟨t, rfl⟩ := ry
 obtain ⟨its, r, pl, hz⟩ := I.list hq
 obtain ⟨j, h1, h2, h3, h4, h5⟩ := atI_get he
 obtain ⟨w, ew, rw'⟩ := r.get h2
 have hl := r.length
 have hn := line63
 have fin : EP X pins σ Q w s := ⟨z, H, I, rw', q⟩
 by_cases h0 : 0 ≤ i
 ·have hj : i.toNat = j := by
   rw [seqIndex_of h0 h5] at h1
   exact Option.some.inj h1
  exact item_listR pl.isList h0 (by omega) (by rw [hj]; simpa using ew) fin hs
 ·have hj : (i + (its.toArray.size : Int)).toNat = j := by
   rw [seqIndex_neg (by omega) h4] at h1
   rw [List.size_toArray, ← hl]
   exact Option.some.inj h1
  exact subscriptTail_builtinR (x := w) pl.isList.typeIs slot_list_getitem.lookup
   (wpAny_getItem_list_neg (Q := fun r s' => r = w ∧ EP X pins σ Q r s') pl.isList (by omega) (by rw [List.size_toArray] <;> omega) (by omega) (by rw [hj]; simpa using ew) ⟨rfl, fin⟩) hs
theorem ix_tup : IxR X (rIxT X.K) := by
 intro value slice pins s σ H x y v u Q I rx ry h hs
 obtain ⟨p, xs, i, z, rfl, rfl, hq, he, q⟩ := h
 cases rx
 obtain ⟨t, rfl⟩ := ry
 obtain ⟨its, r, pl, hz⟩ := I.tuple hq
 obtain ⟨j, h1, h2, h3, h4, h5⟩ := atI_get he
 obtain ⟨w, ew, rw'⟩ := r.get h2
 have hl := r.length
 have hn := line63
 have fin : EP X pins σ Q w s := ⟨z, H, I, rw', q⟩
 exact subscriptTail_builtinR (x := w) pl.typeIs slot_tuple_getitem.lookup
  (getItem_tuple (j := j) (Q := fun r s' => r = w ∧ EP X pins σ Q r s') pl (by omega) (by omega) (by rw [List.size_toArray, ← hl]; exact h1) (by simpa using ew) ⟨rfl, fin⟩) hs
theorem slice_bounds (lo hi : Option Int) (n : Nat) : (sliceBounds lo hi none n).1 = ((HT.sIx n 0 lo : Nat) : Int) ∧ (sliceBounds lo hi none n).2.1 = ((HT.sIx n n hi : Nat) : Int) ∧ (sliceBounds lo hi none n).2.2 = 1 := by
 refine ⟨?_, ?_, rfl⟩
 ·cases lo with
  | none => simp [sliceBounds, HT.sIx]
  | some i =>
   simp only [sliceBounds, HT.sIx, Option.getD_none, show (1 : Int) > 0 by decide, if_true]
   by_cases h : i < 0
   ·simp only [h, if_true] <;> omega
   ·simp only [h, if_false] <;> omega
 ·cases hi with
  | none => simp [sliceBounds, HT.sIx]
  | some i =>
   simp only [sliceBounds, HT.sIx, Option.getD_none, show (1 : Int) > 0 by decide, if_true]
   by_cases h : i < 0
   ·simp only [h, if_true] <;> omega
   ·simp only [h, if_false] <;> omega
theorem slicePick_cut (its : List Value) (lo hi : Option Int) : slicePick its.toArray lo hi none = ((its.drop (HT.sIx its.length 0 lo)).take (HT.sIx its.length its.length hi - HT.sIx its.length 0 lo)).toArray := by
 obtain ⟨h1, h2, h3⟩ := slice_bounds lo hi its.toArray.size
 unfold slicePick
 rw [h1, h2, h3]
 simp only [sliceRange_one, pick_run, List.size_toArray] <;> rfl
def rSlL (K : W.Frag) : V → Option Int → Option Int → Hp → VK → Prop := fun x lo hi H Q => ∃ a xs, x = .ref a ∧ SqL K H a xs ∧ ∀ p, H p = none → Q (.ref p) (upd H p (.lst (cutV xs lo hi)))
theorem sl_list : SlR X (rSlL X.K) := by
 intro pins s σ H x v vl vu lo hi sl Q I rx hs pl pu h
 obtain ⟨a, xs, rfl, hx, q⟩ := h
 cases rx
 obtain ⟨its, r, ht, hz⟩ := I.list hx
 have hlen := r.length
 refine ⟨"list", _, slot_list_getitem.lookup, ht.isList.typeIs, ?_⟩
 refine wpAny_getItem_list_slice ht.isList hs pl pu .none (by simp) ?_ (by rw [List.size_toArray] <;> omega)
 rw [slicePick_cut, ← hlen]
 refine ⟨.ref s.heap.objs.size, _, I.laid (t' := s.toks) (o := .lst (cutV xs lo hi)) (fun b ob q => Heap.get?_push_of_some _ q) (Nat.le_refl _) ?_, rfl, q _ (I.hok.fresh (Nat.le_refl _))⟩
 exact ⟨Nat.le_trans (cutV_length xs lo hi) hz, _, 0, (r.drop (HT.sIx xs.length 0 lo)).take (HT.sIx xs.length xs.length hi - HT.sIx xs.length 0 lo), Heap.get?_push_size _ rfl⟩
def flatV : V → Bool
 | .non => true
 | .bl _ => true
 | .int _ => true
 | .str _ => true
 | _ => false
def eqV : V → V → Bool
 | .non, .non => true
 | .bl a, .bl b => a == b
 | .bl a, .int b => (if a then 1 else 0) == b
 | .int a, .bl b => a == (if b then 1 else 0)
 | .int a, .int b => a == b
 | .str a, .str b => a == b
 | _, _ => false
theorem eqAt_V {A : Around} {s : Shared} {y x : V} {u v : Value} (ry : RelV y u) (rx : RelV x v) (fy : flatV y = true) (fx : flatV x = true) : SeqAt.EqAt A s u v (eqV y x) := by
 cases y with
 | non =>
  cases ry
  cases x with
  | non => cases rx; exact SeqAt.EqAt.same _
  | bl b => cases rx; exact SeqAt.EqAt.none_bool b
  | int b => obtain ⟨t, rfl⟩ := rx; exact SeqAt.EqAt.none_int b t
  | str b => obtain ⟨t, rfl⟩ := rx; exact SeqAt.EqAt.none_str b t
  | _ => exact absurd (show false = true from fx) Bool.false_ne_true
 | bl a =>
  cases ry
  cases x with
  | non => cases rx; exact SeqAt.EqAt.bool_none a
  | bl b => cases rx; exact SeqAt.EqAt.bool_bool a b
  | int b => obtain ⟨t, rfl⟩ := rx; exact SeqAt.EqAt.bool_int a b t
  | str b => obtain ⟨t, rfl⟩ := rx; exact SeqAt.EqAt.bool_str a b t
  | _ => exact absurd (show false = true from fx) Bool.false_ne_true
 | int a =>
  obtain ⟨t', rfl⟩ := ry
  cases x with
  | non => cases rx; exact SeqAt.EqAt.int_none a t'
  | bl b => cases rx; exact SeqAt.EqAt.int_bool a t' b
  | int b => obtain ⟨t, rfl⟩ := rx; exact SeqAt.EqAt.int_int a t' b t
  | str b => obtain ⟨t, rfl⟩ := rx; exact SeqAt.EqAt.int_str a t' b t
  | _ => exact absurd (show false = true from fx) Bool.false_ne_true
 | str a =>
  obtain ⟨t', rfl⟩ := ry
  cases x with
  | non => cases rx; exact SeqAt.EqAt.str_none a t'
  | bl b => cases rx; exact SeqAt.EqAt.str_bool a t' b
  | int b => obtain ⟨t, rfl⟩ := rx; exact SeqAt.EqAt.str_int a t' b t
  | str b => obtain ⟨t, rfl⟩ := rx; exact SeqAt.EqAt.str_str a t' b t
  | _ => exact absurd (show false = true from fx) Bool.false_ne_true
 | _ => exact absurd (show false = true from fy) Bool.false_ne_true
def eqU (x : V) (u : Value) : Bool := match u with
 | .none => eqV .non x
 | .bool b => eqV (.bl b) x
 | .int i _ => eqV (.int i) x
 | .str z _ => eqV (.str z) x
 | _ => false
theorem eqU_of {x y : V} {u : Value} (r : RelV y u) (f : flatV y = true) : eqU x u = eqV y x := by
 cases y with
 | non => cases r; rfl
 | bl b => cases r; rfl
 | int i => obtain ⟨t, rfl⟩ := r; rfl
 | str z => obtain ⟨t, rfl⟩ := r; rfl
 | _ => exact absurd (show false = true from f) Bool.false_ne_true
theorem any_eqU {x : V} : ∀ {xs : List V} {us : List Value}, Vals xs us → xs.all flatV = true → us.any (eqU x) = xs.any fun y => eqV y x
 | _, _, .nil, _ => rfl
 | y :: xs, u :: us, .cons r t, f => by
  rw [List.all_cons, Bool.and_eq_true] at f
  rw [List.any_cons, List.any_cons, eqU_of r f.1, any_eqU t f.2]
theorem mem_eqAt {A : Around} {s : Shared} {x : V} {v : Value} (rx : RelV x v) (fx : flatV x = true) : ∀ {xs : List V} {us : List Value}, Vals xs us → xs.all flatV = true → ∀ u ∈ us, SeqAt.EqAt A s u v (eqU x u)
 | _, _, .nil, _ => fun u hu => by cases hu
 | y :: xs, u :: us, .cons r t, f => fun u' hu => by
  rw [List.all_cons, Bool.and_eq_true] at f
  rcases List.mem_cons.mp hu with rfl | hu
  ·rw [eqU_of r f.1]; exact eqAt_V r rx f.1 fx
  ·exact mem_eqAt rx fx t f.2 u' hu
def inV (x : V) (xs : List V) : Bool := xs.any fun y => eqV y x
def rIn (K : W.Frag) (neg : Bool) : R2 := fun x y H Q => ∃ p xs, y = .ref p ∧ (SqL K H p xs ∨ SqT K H p xs) ∧ flatV x = true ∧ xs.all flatV = true ∧ Q (.bl (if neg then !inV x xs else inV x xs)) H
theorem op_in_seq : OpR X (compareOp .In) (rIn X.K false) := by
 intro pins s σ H x y v u Q I rx ry h
 obtain ⟨p, xs, rfl, hq, fx, fs, q⟩ := h
 cases ry
 rcases hq with hq | hq
 ·obtain ⟨its, r, pl, hz⟩ := I.list hq
  refine SeqAt.in_listAt (eqU x) pl.isList (fun w hw => mem_eqAt rx fx r fs w (by simpa using hw)) ⟨.bl _, H, I, rfl, ?_⟩
  rw [show its.toArray.any (eqU x) = its.any (eqU x) by simp, any_eqU r fs]
  exact q
 ·obtain ⟨its, r, pl, hz⟩ := I.tuple hq
  refine SeqAt.in_tupleAt (eqU x) pl (fun w hw => mem_eqAt rx fx r fs w (by simpa using hw)) ⟨.bl _, H, I, rfl, ?_⟩
  rw [show its.toArray.any (eqU x) = its.any (eqU x) by simp, any_eqU r fs]
  exact q
theorem op_notIn_seq : OpR X (compareOp .NotIn) (rIn X.K true) := by
 intro pins s σ H x y v u Q I rx ry h
 obtain ⟨p, xs, rfl, hq, fx, fs, q⟩ := h
 cases ry
 rcases hq with hq | hq
 ·obtain ⟨its, r, pl, hz⟩ := I.list hq
  refine SeqAt.notIn_listAt (eqU x) pl.isList (fun w hw => mem_eqAt rx fx r fs w (by simpa using hw)) ⟨.bl _, H, I, rfl, ?_⟩
  rw [show its.toArray.any (eqU x) = its.any (eqU x) by simp, any_eqU r fs]
  exact q
 ·obtain ⟨its, r, pl, hz⟩ := I.tuple hq
  refine SeqAt.notIn_tupleAt (eqU x) pl (fun w hw => mem_eqAt rx fx r fs w (by simpa using hw)) ⟨.bl _, H, I, rfl, ?_⟩
  rw [show its.toArray.any (eqU x) = its.any (eqU x) by simp, any_eqU r fs]
  exact q
theorem call_len_seq : CallR X (.builtin "len") (fun xs H Q => ∃ p ys, xs = [.ref p] ∧ (SqL X.K H p ys ∨ SqT X.K H p ys) ∧ Q (.int ys.length) H) := by
 intro pins s σ H xs us Q I r h
 obtain ⟨p, ys, rfl, hq, q⟩ := h
 obtain ⟨u, rfl, rx⟩ := vals1 r
 cases rx
 have hn := line63
 rcases hq with hq | hq
 ·obtain ⟨its, r', pl, hz⟩ := I.list hq
  have hlen := r'.length
  exact Calls.call_len_list pl.isList (by simp only [List.size_toArray] <;> omega) ⟨.int ys.length, H, I.tok _, ⟨s.toks + 1, by rw [List.size_toArray, hlen]⟩, q⟩
 ·obtain ⟨its, r', pl, hz⟩ := I.tuple hq
  have hlen := r'.length
  exact len_tuple pl (by simp only [List.size_toArray] <;> omega) ⟨.int ys.length, H, I.tok _, ⟨s.toks + 1, by rw [List.size_toArray, hlen]⟩, q⟩
theorem call_list_of : CallR X (.type "list") (fun xs H Q => ∃ p ys, xs = [.ref p] ∧ (SqL X.K H p ys ∨ SqT X.K H p ys) ∧ ∀ l, H l = none → Q (.ref l) (upd H l (.lst ys))) := by
 intro pins s σ H xs us Q I r h
 obtain ⟨p, ys, rfl, hq, q⟩ := h
 obtain ⟨u, rfl, rx⟩ := vals1 r
 cases rx
 have fin : ∀ (its : List Value), Vals ys its → ys.length ≤ sizeLine → ∀ (h' : Heap) (c' : Nat), (∀ b o', s.heap.get? b = some o' → h'.get? b = some o') →
   h'.get? s.heap.objs.size = some { cls := .type "list", dict := none, data := .seq its.toArray c', slots := #[] } → EP X pins σ Q (.ref s.heap.objs.size) { s with heap := h' } := fun its r' hz h' c' kp e =>
  ⟨.ref s.heap.objs.size, _, I.laid (t' := s.toks) kp (Nat.le_refl _) (show ObjOk X.prog X.w _ h' _ (.lst ys) from ⟨hz, its, c', r', e⟩), rfl, q _ (I.hok.fresh (Nat.le_refl _))⟩
 rcases hq with hq | hq
 ·obtain ⟨its, r', pl, hz⟩ := I.list hq
  have hlen := r'.length
  obtain ⟨o, ho, hc, n, hd⟩ := pl.isList
  exact call_list_seq p (.inl rfl) ho hc hd (fun h' c' kp e => fin its r' hz h' c' kp e) (by simp only [List.size_toArray] <;> omega)
 ·obtain ⟨its, r', pl, hz⟩ := I.tuple hq
  have hlen := r'.length
  obtain ⟨o, ho, hc, n, hd⟩ := pl
  exact call_list_seq p (.inr rfl) ho hc hd (fun h' c' kp e => fin its r' hz h' c' kp e) (by simp only [List.size_toArray] <;> omega)
theorem call_tuple_of : CallR X (.type "tuple") (fun xs H Q => ∃ p ys, xs = [.ref p] ∧ ((SqL X.K H p ys ∧ ∀ l, H l = none → Q (.ref l) (upd H l (.tup ys))) ∨ (SqT X.K H p ys ∧ Q (.ref p) H))) := by
 intro pins s σ H xs us Q I r h
 obtain ⟨p, ys, rfl, h⟩ := h
 obtain ⟨u, rfl, rx⟩ := vals1 r
 cases rx
 rcases h with ⟨hq, q⟩ | ⟨hq, q⟩
 ·obtain ⟨its, r', pl, hz⟩ := I.list hq
  have hlen := r'.length
  refine call_tuple_list pl.isList (fun h' kp => ?_) (by simp only [List.size_toArray] <;> omega)
  have I1 : Inv X pins σ H { s with heap := h' } := I.kept (t' := s.toks) kp
  have I2 : Inv X pins σ (upd H h'.objs.size (.tup ys)) { s with heap := h'.push { cls := .type "tuple", data := .seq its.toArray } } :=
   I1.laid (t' := s.toks) (fun b o e => Heap.get?_push_of_some _ e) (Nat.le_refl _) (show ObjOk X.prog X.w _ _ _ (.tup ys) from ⟨hz, its, r', IsTup.new _ _⟩)
  exact ⟨.ref h'.objs.size, _, I2, rfl, q _ (I1.hok.fresh (Nat.le_refl _))⟩
 ·obtain ⟨its, r', pl, hz⟩ := I.tuple hq
  exact call_tuple_same pl ⟨.ref p, H, I, rfl, q⟩
def tyV (K : W.Frag) (T : String) (x : V) (H : Hp) : Prop := match x with
 | .str _ => T = "str"
 | .int _ => T = "int"
 | .ref p => (T = "list" ∧ ∃ xs, SqL K H p xs) ∨ (T = "tuple" ∧ ∃ o, K.lookup p = some o ∧ o.cls = .type "tuple" ∧ o.dict = none) ∨
   (T = "dict" ∧ ((∃ kvs, H p = some (.dK kvs)) ∨ ∃ kvs, H p = some (.dT kvs))) ∨ (T = "set" ∧ ∃ S n, H p = some (.set S n))
 | _ => False
theorem tyV_is {pins : List (Addr × Obj)} {σ : St} {H : Hp} {s : Shared} {T : String} {x : V} {v : Value} (I : Inv X pins σ H s) (r : RelV x v) (ty : tyV X.K T x H) :
  s.TypeIs v T ∧ ∀ a, v = .ref a → ∃ ob, s.heap.get? a = some ob ∧ ob.dict = none := by
 cases x with
 | str z =>
  obtain ⟨t, rfl⟩ := r
  cases (show T = "str" from ty)
  exact ⟨typeIs_str s z t, fun _ e => nomatch e⟩
 | int i =>
  obtain ⟨t, rfl⟩ := r
  cases (show T = "int" from ty)
  exact ⟨typeIs_int s i t, fun _ e => nomatch e⟩
 | ref p =>
  cases r
  rcases ty with ⟨rfl, xs, hq⟩ | ⟨rfl, o, hk, hc, hd⟩ | ⟨rfl, hk⟩ | ⟨rfl, S, n, hk⟩
  ·obtain ⟨its, _, pl, _⟩ := I.list hq
   refine ⟨pl.isList.typeIs, fun a e => ?_⟩
   cases e
   obtain ⟨o, n, e, c, hd, _⟩ := pl
   exact ⟨o, e, hd⟩
  ·refine ⟨⟨o, I.kIn p o hk, hc⟩, fun a e => ?_⟩
   cases e
   exact ⟨o, I.kIn _ o hk, hd⟩
  ·have z : ∃ o, s.heap.get? p = some o ∧ o.ExactDict := by
    rcases hk with ⟨kvs, hk⟩ | ⟨kvs, hk⟩
    ·obtain ⟨_, _, _, _, o, _, _, e, ex, _⟩ := I.hok p _ hk
     exact ⟨o, e, ex⟩
    ·obtain ⟨_, _, _, _, o, _, _, e, ex, _⟩ := I.hok p _ hk
     exact ⟨o, e, ex⟩
   obtain ⟨o, e, ex⟩ := z
   refine ⟨⟨o, e, ex.1⟩, fun a e2 => ?_⟩
   cases e2
   exact ⟨o, e, ex.2.1⟩
  ·obtain ⟨o, _, _, _, e, ex, _⟩ := I.hok p _ hk
   refine ⟨⟨o, e, ex.1⟩, fun a e2 => ?_⟩
   cases e2
   exact ⟨o, e, ex.2.1⟩
 | _ => exact False.elim ty
def tBM0 (K : W.Frag) (T : String) (r : V → List V → Hp → VK → Prop) (to : TE) : TE := fun σ H Q => to σ H fun x H1 => tyV K T x H1 ∧ r x [] H1 Q
def tBM (K : W.Frag) (T : String) (r : V → List V → Hp → VK → Prop) (to : TE) (t : TA) : TE := fun σ H Q => to σ H fun x H1 => tyV K T x H1 ∧ t σ H1 fun xs H2 => r x xs H2 Q
variable {o e : Expr} {es : List Expr} {to : TE} {t : TA} {name : Str} {apos cpos : Pos} {T id : String} {r : V → List V → Hp → VK → Prop}
theorem pe_bm0 (pa : PlainAttrs T) (slot : Slot T name id) (hty : typeOf (.builtin id) = pure (.type "method_descriptor")) (hm : MtR X id r) (ho : PE X o to)
  (hbase : attributeBase o name X.env (eval o X.env) = eval o X.env := by rfl) (hline : (apos.endLine == cpos.line) = true := by rfl) : PE X (.Call (.Attribute o name apos) [] [] cpos) (tBM0 X.K T r to) := by
 intro pins s σ H Q I h
 refine wpAny_Call_method0_late hbase hline (thn (ho pins s σ H _ I h) fun v s1 ⟨x, H1, I1, r1, ty, q1⟩ => ?_)
 obtain ⟨h1, h2⟩ := tyV_is I1 r1 ty
 exact ⟨T, id, pa, slot, hty, h1, h2, Calls.callWith_builtin rfl (PySem.evalArgs_none (hm pins s1 σ H1 x [] v [] Q I1 r1 .nil q1))⟩
theorem pe_bm (pa : PlainAttrs T) (slot : Slot T name id) (hty : typeOf (.builtin id) = pure (.type "method_descriptor")) (hm : MtR X id r) (ho : PE X o to) (ha : PA X (e :: es) t)
  (hbase : attributeBase o name X.env (eval o X.env) = eval o X.env := by rfl)
  (hfew : ((backTo cpos (starEach (e :: es) X.env)).all (fun x => !x.1) && (backToKw cpos (keywordEach [] X.env)).all (fun x => x.1.isSome)
   && decide ((e :: es).length + ([] : List Keyword).length + (if ([] : List Keyword).isEmpty then 0 else 1) < 30)) = true := by rfl)
  (hline : (apos.endLine == cpos.line) = true := by rfl) (hs : starEach (e :: es) X.env = (false, eval e X.env) :: starEach es X.env := by rfl) (hplain : (backTo cpos (starEach es X.env)).any (·.1) = false := by rfl) :
  PE X (.Call (.Attribute o name apos) (e :: es) [] cpos) (tBM X.K T r to t) := by
 intro pins s σ H Q I h
 refine wpAny_Call_method_late hbase hfew hline rfl (thn (ho pins s σ H _ I h) fun v s1 ⟨x, H1, I1, r1, ty, q1⟩ => ?_)
 obtain ⟨h1, h2⟩ := tyV_is I1 r1 ty
 refine ⟨T, id, pa, slot, hty, h1, h2, ?_⟩
 have hA := ha cpos pins s1 σ H1 _ I1 q1
 rw [hs] at hA ⊢
 refine Calls.callWith_builtin (by show (false || (backTo cpos (starEach es X.env)).any (·.1)) = false; rw [hplain] <;> rfl) (Calls.evalArgs_plain ?_)
 exact thn hA fun us s2 ⟨vs, H2, I2, r2, q2⟩ => hm pins s2 σ H2 x vs v us Q I2 r1 r2 q2
end
end L2
namespace L2
open PySem PySem.Spec PyProof.Rows
def MtM (X : Cx) (id : String) (r : V → List V → Hp → VK → Prop) : Prop :=
 ∀ (pins : List (Addr × Obj)) (s : Shared) (σ : St) (H : Hp) (x : V) (xs : List V) (v : Value) (us : List Value) (Q : VK), Inv X pins σ H s → RelV x v → Vals xs us → r x xs H Q →
  wpAny (model X.prog X.w) X.A (call (.builtin id) (v :: us)) (EP X pins σ Q) X.xe s
theorem Vals.one : ∀ {x : V} {us : List Value}, Vals [x] us → ∃ u, us = [u] ∧ RelV x u
 | _, _, .cons r .nil => ⟨_, rfl, r⟩
theorem Vals.zero : ∀ {us : List Value}, Vals [] us → us = []
 | _, .nil => rfl
theorem Vals.dropLast {xs : List V} {us : List Value} (h : Vals xs us) : Vals xs.dropLast us.dropLast := by
 induction h with
 | nil => exact .nil
 | cons r t ih =>
  cases t with
  | nil => exact .nil
  | cons q t' => exact .cons r ih
theorem Vals.eraseIdx : ∀ {xs : List V} {us : List Value} (i : Nat), Vals xs us → Vals (xs.eraseIdx i) (us.eraseIdx i)
 | _, _, _, .nil => .nil
 | _, _, 0, .cons _ t => t
 | _, _, i + 1, .cons r t => .cons r (Vals.eraseIdx i t)
theorem Vals.rep {xs : List V} {us : List Value} (h : Vals xs us) : ∀ k : Nat, Vals (List.replicate k xs).flatten (List.replicate k us).flatten
 | 0 => .nil
 | k + 1 => by
  rw [List.replicate_succ, List.replicate_succ, List.flatten_cons, List.flatten_cons]
  exact Vals.append h (Vals.rep h k)
theorem erase_last {α : Type} (l : List α) : l.eraseIdx (l.length - 1) = l.dropLast := by
 induction l with
 | nil => rfl
 | cons a r ih =>
  cases r with
  | nil => rfl
  | cons b r =>
   have e : (a :: b :: r).length - 1 = ((b :: r).length - 1) + 1 := by
    have h1 : (a :: b :: r).length = r.length + 2 := rfl
    have h2 : (b :: r).length = r.length + 1 := rfl
    omega
   rw [e, List.eraseIdx_cons_succ, ih]
   all_goals rfl
theorem len_erase {α : Type} : ∀ (l : List α) (i : Nat), (l.eraseIdx i).length ≤ l.length
 | [], _ => Nat.le_refl _
 | _ :: _, 0 => Nat.le_succ _
 | _ :: r, i + 1 => Nat.succ_le_succ (len_erase r i)
theorem foldl_rep (its : List Value) : ∀ (k : Nat) (acc : List Value),
  List.foldl (fun x1 x2 => x1 ++ x2) acc.toArray (List.replicate k its.toArray) = (acc ++ (List.replicate k its).flatten).toArray
 | 0, acc => by simp
 | k + 1, acc => by
  have e : acc.toArray ++ its.toArray = (acc ++ its).toArray := by simp
  have e2 : (acc ++ its) ++ (List.replicate k its).flatten = acc ++ (List.replicate (k + 1) its).flatten := by
   rw [List.replicate_succ, List.flatten_cons, List.append_assoc]
  rw [← e2, ← foldl_rep its k (acc ++ its), ← e, List.replicate_succ, List.foldl_cons]
section
variable {X : Cx} {pins : List (Addr × Obj)} {σ : St} {H : Hp} {s : Shared} {l b : Addr} {xs ys zs : List V}
theorem Inv.lset {its its' : List Value} {n : Nat} {f : Array Value → Array Value} {t' : Nat} (I : Inv X pins σ H s) (hH : H l = some (.lst xs))
  (e : s.heap.get? l = some { cls := .type "list", data := .seq its.toArray n }) (hf : f its.toArray = its'.toArray) (hv : Vals ys its') (hz : ys.length ≤ sizeLine) :
  Inv X pins σ (upd H l (.lst ys)) { s with heap := s.heap.update l (Obj.mapSeq f), toks := t' } := by
 have q := PySem.IsL.update e f
 rw [hf] at q
 refine I.write (x := l) (e := l) (by rw [hH]; exact trivial) (.inl rfl) (fun b' u hb hu => (Heap.get?_update_other s.heap (Obj.mapSeq f) (Ne.symm hb)).trans hu) ⟨_, q⟩ ?_
 exact ⟨hz, its', _, hv, q⟩
theorem Inv.lnew {its : List Value} {t' : Nat} (I : Inv X pins σ H s) (hv : Vals ys its) (hz : ys.length ≤ sizeLine) :
  Inv X pins σ (upd H s.heap.objs.size (.lst ys)) { s with heap := s.heap.push { cls := .type "list", data := .seq its.toArray }, toks := t' } :=
 I.laid (fun _ _ q => Heap.get?_push_of_some _ q) (Nat.le_refl _) ⟨hz, its, 0, hv, Heap.get?_push_size _ rfl⟩
theorem Inv.fresh (I : Inv X pins σ H s) : H s.heap.objs.size = none := I.hok.fresh (Nat.le_refl _)
theorem Inv.lstM (I : Inv X pins σ H s) (hH : H l = some (.lst xs)) : xs.length ≤ sizeLine ∧ ∃ (its : List Value) (n : Nat), Vals xs its ∧ xs.length = its.length ∧ s.heap.get? l = some { cls := .type "list", data := .seq its.toArray n } := by
 obtain ⟨z, its, n, r, e⟩ := I.hok l _ hH
 exact ⟨z, its, n, r, r.length, e⟩
theorem notLongL {n : Nat} (h : n ≤ sizeLine) : Builtin.List.listTooLong n = false := by
 unfold Builtin.List.listTooLong
 exact decide_eq_false (by omega)
end
section
variable {X : Cx}
def rAppend : V → List V → Hp → VK → Prop := fun x vs H Q => ∃ l xs y, x = .ref l ∧ vs = [y] ∧ H l = some (.lst xs) ∧ xs.length < sizeLine ∧ Q .non (upd H l (.lst (xs ++ [y])))
theorem mt_append : MtM X "list.append" rAppend := by
 intro pins s σ H x vs v us Q I rx rv h
 obtain ⟨l, xs, y, rfl, rfl, hH, hz, q⟩ := h
 cases rx
 obtain ⟨u, rfl, ru⟩ := rv.one
 obtain ⟨z, its, n, r, hl, e⟩ := I.lstM hH
 refine call_meets F.slot_list_append ⟨_, e, rfl⟩ F.entry_list_append (F.args_list_append_2 _ _) (PySem.list_append l its.toArray n u (by rw [List.size_toArray]; omega)) ⟨e, ?_⟩
 refine ⟨.non, _, I.lset (its' := its ++ [u]) hH e (by simp) (r.append (.cons ru .nil)) ?_, rfl, q⟩
 rw [List.length_append, List.length_singleton]
 omega
def rExtend : V → List V → Hp → VK → Prop := fun x vs H Q => ∃ l b xs zs, x = .ref l ∧ vs = [.ref b] ∧ H l = some (.lst xs) ∧ H b = some (.lst zs) ∧ xs.length + zs.length ≤ sizeLine ∧ Q .non (upd H l (.lst (xs ++ zs)))
theorem mt_extend : MtM X "list.extend" rExtend := by
 intro pins s σ H x vs v us Q I rx rv h
 obtain ⟨l, b, xs, zs, rfl, rfl, hH, hB, hz, q⟩ := h
 cases rx
 obtain ⟨u, rfl, ru⟩ := rv.one
 cases ru
 obtain ⟨z, its, n, r, hl, e⟩ := I.lstM hH
 obtain ⟨z2, its2, n2, r2, hl2, e2⟩ := I.lstM hB
 have hsz : its.toArray.size + its2.toArray.size ≤ sizeLine := by rw [List.size_toArray, List.size_toArray]; omega
 have hlong : ¬ (!its.toArray.isEmpty && Builtin.List.listTooLong (its.toArray.size + its2.toArray.size)) = true := by
  rw [notLongL hsz, Bool.and_false]
  exact Bool.false_ne_true
 refine call_meets F.slot_list_extend ⟨_, e, rfl⟩ F.entry_list_extend (F.args_list_extend_2 _ _)
  (AutoSeq1.list_extend_list_list_0 l its.toArray n b its2.toArray n2 hlong (by rw [List.size_toArray]; omega) (by omega)) ⟨e, e2, ?_⟩
 refine ⟨.non, _, I.lset (its' := its ++ its2) hH e (by simp) (r.append r2) ?_, rfl, q⟩
 rw [List.length_append]
 omega
def rPop : V → List V → Hp → VK → Prop := fun x vs H Q => ∃ l xs y, x = .ref l ∧ vs = [] ∧ H l = some (.lst xs) ∧ xs[xs.length - 1]? = some y ∧ Q y (upd H l (.lst xs.dropLast))
theorem mt_pop : MtM X "list.pop" rPop := by
 intro pins s σ H x vs v us Q I rx rv h
 obtain ⟨l, xs, y, rfl, rfl, hH, hy, q⟩ := h
 cases rx
 have hus := rv.zero
 subst hus
 obtain ⟨z, its, n, r, hl, e⟩ := I.lstM hH
 obtain ⟨u, hu, ru⟩ := r.get hy
 have hy' : its.toArray[its.toArray.size - 1]? = some u := by
  show its.toArray[its.length - 1]? = some u
  rw [← Array.getElem?_toList, ← hl]
  exact hu
 refine call_meets F.slot_list_pop ⟨_, e, rfl⟩ F.entry_list_pop (F.args_list_pop_1 _) (MeetsSeq.list_pop_last l its.toArray n u hy' (by rw [List.size_toArray]; omega)) ⟨e, ?_⟩
 refine ⟨y, _, I.lset (its' := its.dropLast) hH e ?_ r.dropLast ?_, ru, q⟩
 ·show its.toArray.eraseIdxIfInBounds (its.toArray.size - 1) = its.dropLast.toArray
  rw [List.size_toArray, List.eraseIdxIfInBounds_toArray, erase_last]
 ·rw [List.length_dropLast]
  omega
def rPopAt : V → List V → Hp → VK → Prop := fun x vs H Q => ∃ l xs i k y, x = .ref l ∧ vs = [.int i] ∧ H l = some (.lst xs) ∧ -(2 ^ 63) ≤ i ∧ i < 2 ^ 63 ∧ seqIndex? i xs.length = some k ∧ xs[k]? = some y ∧ Q y (upd H l (.lst (xs.eraseIdx k)))
theorem mt_popAt : MtM X "list.pop" rPopAt := by
 intro pins s σ H x vs v us Q I rx rv h
 obtain ⟨l, xs, i, k, y, rfl, rfl, hH, h1, h2, hk, hy, q⟩ := h
 cases rx
 obtain ⟨u, rfl, ru⟩ := rv.one
 obtain ⟨t, rfl⟩ := ru
 obtain ⟨z, its, n, r, hl, e⟩ := I.lstM hH
 obtain ⟨w, hw, rw'⟩ := r.get hy
 refine call_meets F.slot_list_pop ⟨_, e, rfl⟩ F.entry_list_pop (F.args_list_pop_2 _ _)
  (MeetsSeq.list_pop_at l its.toArray n i t k w (fitsIndex_both h1 h2) (by rw [List.size_toArray, ← hl]; exact hk) (by rw [← Array.getElem?_toList]; exact hw) (by rw [List.size_toArray]; omega)) ⟨e, ?_⟩
 refine ⟨y, _, I.lset (its' := its.eraseIdx k) hH e ?_ (r.eraseIdx k) ?_, rw', q⟩
 ·show its.toArray.eraseIdxIfInBounds k = (its.eraseIdx k).toArray
  rw [List.eraseIdxIfInBounds_toArray]
 ·have := len_erase xs k
  omega
def rCat : R2 := fun x y H Q => ∃ l b xs zs, x = .ref l ∧ y = .ref b ∧ H l = some (.lst xs) ∧ H b = some (.lst zs) ∧ xs.length + zs.length ≤ sizeLine ∧ ∀ p, H p = none → Q (.ref p) (upd H p (.lst (xs ++ zs)))
theorem op_cat : OpR X (binaryOp .Add) rCat := by
 intro pins s σ H x y v u Q I rx ry h
 obtain ⟨l, b, xs, zs, rfl, rfl, hH, hB, hz, q⟩ := h
 cases rx
 cases ry
 obtain ⟨z, its, n, r, hl, e⟩ := I.lstM hH
 obtain ⟨z2, its2, n2, r2, hl2, e2⟩ := I.lstM hB
 refine PySem.P.add_list e e2 ?_ (by rw [List.size_toArray, List.size_toArray]; omega)
 have ea : its.toArray ++ its2.toArray = (its ++ its2).toArray := by simp
 rw [ea]
 exact ⟨.ref _, _, I.lnew (t' := s.toks) (r.append r2) (by rw [List.length_append]; omega), rfl, q _ I.fresh⟩
def rRep : R2 := fun x y H Q => ∃ l k xs, x = .ref l ∧ y = .int k ∧ H l = some (.lst xs) ∧ -(2 ^ 63) ≤ k ∧ k < 2 ^ 63 ∧ xs.length * k.toNat ≤ sizeLine ∧
 ∀ p, H p = none → Q (.ref p) (upd H p (.lst (List.replicate k.toNat xs).flatten))
theorem len_rep {α : Type} (xs : List α) (k : Nat) : (List.replicate k xs).flatten.length = k * xs.length := by
 induction k with
 | zero => simp
 | succ k ih => rw [List.replicate_succ, List.flatten_cons, List.length_append, ih, Nat.succ_mul, Nat.add_comm]
theorem op_rep : OpR X (binaryOp .Mult) rRep := by
 intro pins s σ H x y v u Q I rx ry h
 obtain ⟨l, k, xs, rfl, rfl, hH, h1, h2, hz, q⟩ := h
 cases rx
 obtain ⟨t, rfl⟩ := ry
 obtain ⟨z, its, n, r, hl, e⟩ := I.lstM hH
 have hlen : its.toArray.size * k.toNat ≤ sizeLine := by rw [List.size_toArray, ← hl]; exact hz
 have hcap : ¬ its.toArray.size * k.toNat > (2 ^ 63 - 1) / 8 := by
  have : (sizeLine : Nat) ≤ (2 ^ 63 - 1) / 8 := by decide
  omega
 have hfit : ¬ (!Builtin.List.listFitsIndex k) = true := by
  rw [fitsIndex_both h1 h2]
  exact Bool.false_ne_true
 have hlong : ¬ Builtin.List.listTooLong (its.toArray.size * k.toNat) = true := by
  rw [notLongL hlen]
  exact Bool.false_ne_true
 have hnew : List.foldl (fun x1 x2 => x1 ++ x2) #[] (List.replicate (if its.toArray.isEmpty = true then 0 else k.toNat) its.toArray) = (List.replicate k.toNat its).flatten.toArray := by
  have f0 : ∀ m : Nat, List.foldl (fun x1 x2 => x1 ++ x2) #[] (List.replicate m its.toArray) = (List.replicate m its).flatten.toArray := fun m => by
   have := foldl_rep its m []
   rw [List.nil_append] at this
   exact this
  rw [f0]
  cases its with
  | nil => simp
  | cons a r' => rw [if_neg (by simp)]
 refine wpAny_binaryOp_repeat_ref (T := "list") (U := "int") (by decide) ⟨_, e, rfl⟩ (fun s' => typeIs_int s' k t) noFill_list_mul F.fills_int_mul F.slot_int_rmul repeat_list F.slot_int_index.lookup
  (call_meets F.slot_int_rmul (typeIs_int s k t) F.entry_int_rmul (F.args_int_rmul_2 _ _) (int___rmul___int_list k t l its.toArray n)
   ⟨e, rfl, ⟨_, e, rfl⟩, call_meets F.slot_list_mul ⟨_, e, rfl⟩ F.entry_list_mul (F.args_list_mul_2 _ _) (AutoListH.list___mul___list_int_3 l its.toArray n k t hfit hcap hlong) ⟨e, ?_⟩⟩)
 rw [hnew]
 exact ⟨.ref _, _, I.lnew (t' := s.toks) (r.rep k.toNat) (by rw [len_rep, Nat.mul_comm]; exact hz), rfl, q _ I.fresh⟩
end
section
variable {prog : Program} {w : World} {A : Around} {E : Value → Shared → Prop} {s : Shared}
end
section
variable {X : Cx}
end
end L2
namespace L2
open PySem PySem.Spec PyProof.Rows
theorem Vals.ints : ∀ {ns : List Int} {us : List Value}, Vals (ns.map V.int) us → IntsAre us ns
 | [], us, h => by
  rw [List.map_nil] at h
  cases h
  exact IntsAre.nil
 | n :: ns, us, h => by
  rw [List.map_cons] at h
  cases h with
  | cons r t =>
   obtain ⟨k, rfl⟩ := r
   exact IntsAre.cons n k (Vals.ints t)
theorem Vals.bls : ∀ {bs : List Bool} {us : List Value}, Vals (bs.map V.bl) us → us = bs.map Value.bool
 | [], us, h => by
  rw [List.map_nil] at h
  cases h
  rfl
 | b :: bs, us, h => by
  rw [List.map_cons] at h
  cases h with
  | cons r t =>
   cases r
   rw [Vals.bls t, List.map_cons]
theorem Vals.ref1 {a : Addr} {us : List Value} (r : Vals [V.ref a] us) : us = [Value.ref a] := by
 cases r with
 | cons r t =>
  cases t
  cases r
  rfl
section
variable {prog : Program} {w : World} {A : Around} {E : Value → Shared → Prop} {s : Shared} {l : Addr} {its : List Value} {ns : List Int} {Q : Value → Shared → Prop}
theorem sum_raw (hh : A.handled = none) (hl : s.heap.IsList l its.toArray) (hi : IntsAre its ns)
  (h : ∀ h' tk t', (∀ b o, s.heap.get? b = some o → h'.get? b = some o) → Q (.int ns.sum t') { s with heap := h', toks := tk }) : wpAny (model prog w) A (call (.builtin "sum") [.ref l]) Q E s := by
 obtain ⟨xs, e⟩ := hi.allInts.items
 have hn : numsOf (intItems xs).toList = ns := by rw [← e]; exact hi.numsOf
 rw [nums_intItems] at hn
 rw [e] at hl
 refine PySem.sum_intListG hh hl fun h' tk t' hk => ?_
 have := h h' tk t' hk
 rw [preSum_eq, List.take_of_length_le (by simp), hn]; exact this
end
section
variable {X : Cx}
def rSum (K : W.Frag) : List V → Hp → VK → Prop := fun vs H Q => ∃ (a : Addr) (ns : List Int), vs = [V.ref a] ∧ SqL K H a (ns.map V.int) ∧ Q (.int ns.sum) H
theorem cr_sum (hc : X.calm = true) : CallR X (.builtin "sum") (rSum X.K) := by
 intro pins s σ H vs us Q I r h
 obtain ⟨a, ns, rfl, hs, q⟩ := h
 obtain ⟨its, rv, hl, _⟩ := I.list hs
 rw [Vals.ref1 r]
 exact sum_raw (I.ok.hd hc) hl.isList rv.ints fun h' tk t' hk => ⟨.int _, H, I.kept hk, ⟨_, rfl⟩, q⟩
end
section
variable {X : Cx}
def rIndex (K : W.Frag) : V → List V → Hp → VK → Prop := fun x xs H Q => ∃ (a : Addr) (ys : List V) (y : V) (j : Nat) (z : V), x = V.ref a ∧ xs = [y] ∧ SqL K H a ys ∧ flatV y = true ∧ ys.all flatV = true ∧ ys[j]? = some z ∧ eqV z y = true ∧
 (∀ (m : Nat) (z' : V), m < j → ys[m]? = some z' → eqV z' y = false) ∧ Q (.int (j : Nat)) H
theorem flat_at {ys : List V} (f : ys.all flatV = true) {j : Nat} {z : V} (h : ys[j]? = some z) : flatV z = true := List.all_eq_true.mp f z (List.mem_of_getElem? h)
theorem mt_index : MtR X "list.index" (rIndex X.K) := by
 intro pins s σ H x xs v us Q I rx rxs h
 obtain ⟨a, ys, y, j, z, rfl, rfl, hs, fy, fys, hz, hzj, hno, q⟩ := h
 cases rx
 cases rxs with
 | cons ry rt =>
  rename_i uy ut
  cases rt
  obtain ⟨its, rv, ⟨⟨cls, dd, data, sl⟩, n, ho, hc, hdn, hd⟩, hlen⟩ := I.list hs
  simp only at hc hd
  subst hc hd
  obtain ⟨u, hu, ru⟩ := rv.get hz
  obtain ⟨hjl, hje⟩ := List.getElem?_eq_some_iff.mp hu
  have hvl := rv.length
  have hj : j < its.toArray.size := by simpa using hjl
  have hsl := sizeLine_eq
  refine call_meets PySem.F.slot_list_index ⟨_, ho, rfl⟩ PySem.F.entry_list_index (PySem.F.args_list_index_2 _ _)
   (SeqAt.list_indexAt a its.toArray n dd sl uy (eqU y) j hj (by omega) ?_ ?_) ⟨ho, fun u' hu' => mem_eqAt ry fy rv fys u' (by simpa using hu'), ?_⟩
  ·have e1 : its.toArray[j] = u := by simpa using hje
   rw [e1, eqU_of ru (flat_at fys hz)]
   exact hzj
  ·intro m hm hmj
   have hml : m < its.length := by simpa using hm
   have hmy : m < ys.length := by omega
   have hy' : ys[m]? = some ys[m] := List.getElem?_eq_getElem hmy
   obtain ⟨u2, hu2, ru2⟩ := rv.get hy'
   obtain ⟨_, hme⟩ := List.getElem?_eq_some_iff.mp hu2
   have e1 : its.toArray[m] = u2 := by simpa using hme
   rw [e1, eqU_of ru2 (flat_at fys hy')]
   exact hno m _ hmj hy'
  ·exact ⟨.int (j : Nat), H, I.tok _, ⟨_, rfl⟩, q⟩
end
section
variable {X : Cx}
end
theorem iter_any {prog : Program} {w : World} {A : Around} {E : Value → Shared → Prop} {s : Shared} {l : Addr} {items : Array Value} {Q : Value → Shared → Prop} (hl : s.heap.IsList l items)
  (h : ∀ s₂ : Shared, s₂ = { s with heap := s.heap.push { cls := .type "list_iterator", data := .fields #[.ref l, .int 0 0] } } →
   (s₂.heap.IsListIter s.heap.objs.size l 0 ∧ s₂.heap.IsList l items) → l ≠ s.heap.objs.size → Q (.ref s.heap.objs.size) s₂) : wpAny (model prog w) A (pyIter (.ref l)) Q E s := by
 have hlt : l < s.heap.objs.size := by obtain ⟨_, e, _⟩ := hl; exact Heap.lt_size e
 exact wpAny_pyIter_list hl (h _ rfl ⟨⟨_, Heap.get?_push_size _ rfl, rfl, rfl⟩, hl.push _⟩ (Nat.ne_of_lt hlt))
theorem truth_bools {prog : Program} {w : World} {A : Around} {bs : List Bool} {its : List Value} (e : its = bs.map Value.bool) :
  TruthOf prog w A (fun i v => its.toArray[i]? = some v) (fun i => bs.getD i false) := fun i v s Q E hv hq => by
 have hv' : its[i]? = some v := by simpa using hv
 rw [e, List.getElem?_map] at hv'
 obtain ⟨b, hb, rfl⟩ := Option.map_eq_some_iff.mp hv'
 have hg : bs.getD i false = b := by rw [List.getD_eq_getElem?_getD, hb] <;> rfl
 have hq' : Q (bs.getD i false) s := hq
 rw [hg] at hq'
 exact wpAny_truthy_bool hq'
theorem all_range : ∀ bs : List Bool, (List.range bs.length).all (fun i => bs.getD i false) = bs.all id
 | [] => rfl
 | b :: bs => by
  rw [List.length_cons, List.range_succ_eq_map, List.all_cons, List.all_map, List.all_cons, ← all_range bs]
  all_goals rfl
section
variable {X : Cx}
def rAll (K : W.Frag) : List V → Hp → VK → Prop := fun vs H Q => ∃ (a : Addr) (bs : List Bool), vs = [V.ref a] ∧ SqL K H a (bs.map V.bl) ∧ Q (.bl (bs.all id)) H
theorem cr_all (hc : X.calm = true) : CallR X (.builtin "all") (rAll X.K) := by
 intro pins s σ H vs us Q I r h
 obtain ⟨a, bs, rfl, hs, q⟩ := h
 obtain ⟨its, rv, hl, _⟩ := I.list hs
 rw [Vals.ref1 r]
 have hb := rv.bls
 refine call_all_walk (iter_any hl.isList fun s₂ e2 st hne => ?_)
 subst e2
 refine ⟨_, _, _, _, _, _, _, rfl, Walks.list (A := X.A.in1) (I.ok.hd hc) _ a hne its.toArray, st, truth_bools hb, fun h' tk hk => ?_⟩
 refine ⟨.bl _, H, I.kept fun b o eo => hk b o (fun hmem => ?_) (Heap.get?_push_of_some _ eo), ?_, q⟩
 ·rcases List.mem_cons.mp hmem with e1 | hmem
  ·exact absurd (e1 ▸ Heap.lt_size eo) (Nat.lt_irrefl _)
  ·cases hmem
 ·show Value.bool _ = Value.bool _
  rw [← all_range, hb, List.size_toArray, List.length_map]
end
mutual
inductive Dp (K : W.Frag) (H : Hp) : V → PyData → Prop
 | non : Dp K H .non .none
 | bl (b : Bool) : Dp K H (.bl b) (.bool b)
 | int (i : Int) : Dp K H (.int i) (.int i)
 | str (x : Str) : Dp K H (.str x) (.str x)
 | lst {a : Addr} {xs : List V} {ds : List PyData} : SqL K H a xs → DpAll K H xs ds → Dp K H (.ref a) (.list ds)
 | tup {a : Addr} {xs : List V} {ds : List PyData} : SqT K H a xs → DpAll K H xs ds → Dp K H (.ref a) (.tuple ds)
inductive DpAll (K : W.Frag) (H : Hp) : List V → List PyData → Prop
 | nil : DpAll K H [] []
 | cons {v : V} {vs : List V} {d : PyData} {ds : List PyData} : Dp K H v d → DpAll K H vs ds → DpAll K H (v :: vs) (d :: ds)
end
section
variable {X : Cx} {pins : List (Addr × Obj)} {σ : St} {H : Hp} {s : Shared}
mutual
theorem Dp.reads (I : Inv X pins σ H s) : ∀ (d : PyData) (v : V) (u : Value), Dp X.K H v d → RelV v u → ∃ as, Reads s.heap u d as
 | .none, _, _, h, r => by
  cases h
  cases r
  exact ⟨_, Reads.none⟩
 | .bool b, _, _, h, r => by
  cases h
  cases r
  exact ⟨_, Reads.bool b⟩
 | .int i, _, _, h, r => by
  cases h
  obtain ⟨t, rfl⟩ := r
  exact ⟨_, Reads.int i t⟩
 | .str x, _, _, h, r => by
  cases h
  obtain ⟨t, rfl⟩ := r
  exact ⟨_, Reads.str x t⟩
 | .list ds, _, _, h, r => by
  cases h with
  | lst hs ha =>
   cases r
   obtain ⟨its, rv, ⟨o, n, ho, hc, _, hd⟩, _⟩ := I.list hs
   obtain ⟨as, hr⟩ := Dp.readsAll I ds _ its ha rv
   exact ⟨_, Reads.list ho hc hd hr⟩
 | .tuple ds, _, _, h, r => by
  cases h with
  | tup hs ha =>
   cases r
   obtain ⟨its, rv, ⟨o, ho, hc, n, hd⟩, _⟩ := I.tuple hs
   obtain ⟨as, hr⟩ := Dp.readsAll I ds _ its ha rv
   exact ⟨_, Reads.tuple ho hc hd hr⟩
 | .dict _, _, _, h, _ => by cases h
theorem Dp.readsAll (I : Inv X pins σ H s) : ∀ (ds : List PyData) (vs : List V) (us : List Value), DpAll X.K H vs ds → Vals vs us → ∃ as, ReadsAll s.heap us ds as
 | [], _, _, h, r => by
  cases h
  cases r
  exact ⟨_, ReadsAll.nil⟩
 | d :: ds, _, _, h, r => by
  cases h with
  | cons h1 h2 =>
   cases r with
   | cons r1 r2 =>
    obtain ⟨as, q1⟩ := Dp.reads I d _ _ h1 r1
    obtain ⟨bs, q2⟩ := Dp.readsAll I ds _ _ h2 r2
    exact ⟨_, ReadsAll.cons q1 q2⟩
end
end
section
variable {X : Cx}
def rEqD (K : W.Frag) : R2 := fun x y H Q => ∃ d e, Dp K H x d ∧ Dp K H y e ∧ SeqAt.shaped d = true ∧ SeqAt.shaped e = true ∧ Q (.bl (PyData.eqv d e)) H
def rNeD (K : W.Frag) : R2 := fun x y H Q => ∃ d e, Dp K H x d ∧ Dp K H y e ∧ SeqAt.shaped d = true ∧ SeqAt.shaped e = true ∧ Q (.bl (!PyData.eqv d e)) H
theorem op_eqD (hu : X.A.units + 64 < cLine) : OpR X (compareOp .Eq) (rEqD X.K) := by
 intro pins s σ H x y v u Q I rx ry h
 obtain ⟨d, e, hd, he, sd, se, q⟩ := h
 obtain ⟨as, r1⟩ := Dp.reads I d x v hd rx
 obtain ⟨bs, r2⟩ := Dp.reads I e y u he ry
 exact SeqAt.compareEq_shaped r1 r2 sd se hu ⟨.bl _, H, I, rfl, q⟩
theorem op_neD (hu : X.A.units + 64 < cLine) : OpR X (compareOp .NotEq) (rNeD X.K) := by
 intro pins s σ H x y v u Q I rx ry h
 obtain ⟨d, e, hd, he, sd, se, q⟩ := h
 obtain ⟨as, r1⟩ := Dp.reads I d x v hd rx
 obtain ⟨bs, r2⟩ := Dp.reads I e y u he ry
 exact SeqAt.compareNe_shaped r1 r2 sd se hu ⟨.bl _, H, I, rfl, q⟩
end
end L2
namespace L2
open PySem PySem.Spec PyProof.Rows
abbrev CellAt (h : Heap) (c : Addr) (v : Option Value) : Prop := h.IsCell c v
def relS (scope sc : Scope) : Scope :=
 { scope with names := scope.names.map fun (n, k) => if (k == .free && sc.kind == .function && sc.names.lookup n == some .cell) then (n, .cell) else (n, k) }
def cloFrom (cells : List (Str × Addr)) : List (Str × NameKind) → List (Str × Addr) → List (Str × Addr)
 | [], acc => acc
 | (n, k) :: r, acc => if k == .free then cloFrom cells r ((n, (cells.lookup n).getD 0) :: acc) else cloFrom cells r acc
theorem closure_loop (env : Env) (f : Str × NameKind → List (Str × Addr) → Sem (ForInStep (List (Str × Addr))))
  (hf : ∀ n k c, f (n, k) c = if k == .free then (do let a ← cellOf env n; pure (.yield ((n, a) :: c))) else pure (.yield c)) :
  ∀ (names : List (Str × NameKind)) (acc : List (Str × Addr)), (∀ y ∈ names, y.2 = .free → ∃ c, env.cells.lookup y.1 = some c) → forIn names acc f = pure (cloFrom env.cells names acc)
 | [], acc, _ => by rw [List.forIn_nil]; rfl
 | (n, k) :: r, acc, h => by
  rw [List.forIn_cons, hf]
  have ih := fun acc => closure_loop env f hf r acc fun y hy => h y (List.mem_cons_of_mem _ hy)
  unfold cloFrom
  by_cases hk : (k == NameKind.free) = true
  ·rw [if_pos hk, if_pos hk]
   obtain ⟨c, hc⟩ := h (n, k) List.mem_cons_self (by simpa using hk)
   have e : cellOf env n = pure c := by unfold cellOf; rw [hc]
   rw [e]
   have e2 : (env.cells.lookup n).getD 0 = c := by rw [hc]; rfl
   rw [e2]
   exact ih _
  ·rw [if_neg hk, if_neg hk]
   exact ih _
theorem closure_ok {scope : Scope} {env : Env} (h : ∀ y ∈ scope.names, y.2 = .free → ∃ c, env.cells.lookup y.1 = some c) : closureFor scope env = pure (cloFrom env.cells scope.names []) := by
 simp only [closureFor]
 rw [closure_loop env _ (fun n k c => rfl) scope.names [] h]
 rfl
theorem mem_lookup {α : Type} : ∀ {l : List (Str × α)} {n : Str} {c : α}, (n, c) ∈ l → ∃ c', l.lookup n = some c'
 | (k, v) :: r, n, c, h => by
  rw [List.lookup_cons]
  cases hb : n == k with
  | true => exact ⟨_, rfl⟩
  | false =>
   rcases List.mem_cons.mp h with e | h
   ·cases e; simp at hb
   ·exact mem_lookup h
theorem cloFrom_mem {cells : List (Str × Addr)} : ∀ {names : List (Str × NameKind)} {acc : List (Str × Addr)} {n : Str} {c : Addr}, (n, c) ∈ cloFrom cells names acc → (n, c) ∈ acc ∨ ((n, .free) ∈ names ∧ c = (cells.lookup n).getD 0)
 | [], _, _, _, h => .inl h
 | (m, k) :: r, acc, n, c, h => by
  unfold cloFrom at h
  split at h
  ·rename_i hk
   have hk : k = .free := by simpa using hk
   rcases cloFrom_mem h with h | ⟨h1, h2⟩
   ·rcases List.mem_cons.mp h with e | h
    ·cases e; exact .inr ⟨hk ▸ List.mem_cons_self, rfl⟩
    ·exact .inl h
   ·exact .inr ⟨List.mem_cons_of_mem _ h1, h2⟩
  ·rcases cloFrom_mem h with h | ⟨h1, h2⟩
   ·exact .inl h
   ·exact .inr ⟨List.mem_cons_of_mem _ h1, h2⟩
theorem cloFrom_acc {cells : List (Str × Addr)} : ∀ {names : List (Str × NameKind)} {acc : List (Str × Addr)} {p : Str × Addr}, p ∈ acc → p ∈ cloFrom cells names acc
 | [], _, _, h => h
 | (m, k) :: r, acc, p, h => by
  unfold cloFrom
  split
  ·exact cloFrom_acc (List.mem_cons_of_mem _ h)
  ·exact cloFrom_acc h
theorem cloFrom_has {cells : List (Str × Addr)} : ∀ {names : List (Str × NameKind)} {acc : List (Str × Addr)} {n : Str}, (n, .free) ∈ names → (n, (cells.lookup n).getD 0) ∈ cloFrom cells names acc
 | (m, k) :: r, acc, n, h => by
  unfold cloFrom
  rcases List.mem_cons.mp h with e | h
  ·cases e
   exact cloFrom_acc List.mem_cons_self
  ·split
   ·exact cloFrom_has h
   ·exact cloFrom_has h
theorem cells_mem : ∀ {names : List (Str × NameKind)} {h : Heap} {acc : List (Str × Addr)} {x : Str} {c : Addr}, (x, c) ∈ cellsFrom h.objs.size names acc →
  (x, c) ∈ acc ∨ ((x, .cell) ∈ names ∧ h.objs.size ≤ c ∧ CellAt (pushCells h names) c none)
 | [], _, _, _, _, h => .inl h
 | (n, k) :: r, h, acc, x, c, hm => by
  unfold cellsFrom at hm
  unfold pushCells
  split at hm
  ·rename_i hk
   rw [if_pos hk]
   have hk : k = .cell := by simpa using hk
   rw [← Heap.size_push h { cls := .type "cell", data := .cell none }] at hm
   rcases cells_mem hm with hm | ⟨h1, h2, h3⟩
   ·rcases List.mem_cons.mp hm with e | hm
    ·cases e
     exact .inr ⟨hk ▸ List.mem_cons_self, Nat.le_refl _, _, pushCells_keeps r _ _ _ (Heap.get?_push_size _ rfl), rfl⟩
    ·exact .inl hm
   ·rw [Heap.size_push] at h2
    exact .inr ⟨List.mem_cons_of_mem _ h1, Nat.le_of_succ_le h2, h3⟩
  ·rename_i hk
   rw [if_neg hk]
   rcases cells_mem hm with hm | ⟨h1, h2, h3⟩
   ·exact .inl hm
   ·exact .inr ⟨List.mem_cons_of_mem _ h1, h2, h3⟩
theorem cells_acc : ∀ {names : List (Str × NameKind)} {n : Nat} {acc : List (Str × Addr)} {p : Str × Addr}, p ∈ acc → p ∈ cellsFrom n names acc
 | [], _, _, _, h => h
 | (m, k) :: r, n, acc, p, h => by
  unfold cellsFrom
  split
  ·exact cells_acc (List.mem_cons_of_mem _ h)
  ·exact cells_acc h
theorem cells_has : ∀ {names : List (Str × NameKind)} {n : Nat} {acc : List (Str × Addr)} {x : Str}, (x, .cell) ∈ names → ∃ c, (x, c) ∈ cellsFrom n names acc
 | (m, k) :: r, n, acc, x, h => by
  unfold cellsFrom
  rcases List.mem_cons.mp h with e | h
  ·cases e
   exact ⟨n, cells_acc List.mem_cons_self⟩
  ·split
   ·exact cells_has h
   ·exact cells_has h
theorem cells_inj : ∀ {names : List (Str × NameKind)} {h : Heap} {acc : List (Str × Addr)} {x y : Str} {c : Addr}, (∀ p ∈ acc, p.2 < h.objs.size) → (∀ x y c, (x, c) ∈ acc → (y, c) ∈ acc → x = y) →
  (x, c) ∈ cellsFrom h.objs.size names acc → (y, c) ∈ cellsFrom h.objs.size names acc → x = y
 | [], _, _, _, _, _, _, hi, h1, h2 => hi _ _ _ h1 h2
 | (n, k) :: r, h, acc, x, y, c, hl, hi, h1, h2 => by
  unfold cellsFrom at h1 h2
  split at h1
  ·rename_i hk
   rw [if_pos hk] at h2
   rw [← Heap.size_push h { cls := .type "cell", data := .cell none }] at h1 h2
   refine cells_inj (h := h.push _) (fun p hp => ?_) (fun x y c a b => ?_) h1 h2
   ·rw [Heap.size_push]
    rcases List.mem_cons.mp hp with rfl | hp
    ·exact Nat.lt_succ_self _
    ·exact Nat.lt_succ_of_lt (hl p hp)
   ·rcases List.mem_cons.mp a with e | a <;> rcases List.mem_cons.mp b with e' | b
    ·cases e; cases e'; rfl
    ·cases e; exact absurd (hl _ b) (Nat.lt_irrefl _)
    ·cases e'; exact absurd (hl _ a) (Nat.lt_irrefl _)
    ·exact hi _ _ _ a b
  ·rename_i hk
   rw [if_neg hk] at h2
   exact cells_inj hl hi h1 h2
theorem newEnv_comp {M : Model} {A : Around} {E : Value → Shared → Prop} {s : Shared} {scope : Scope} {globals : Addr} {closure : List (Str × Addr)} {qual : Str} {func : Option Addr} {code : Value} {around : Env} {builtins : Addr} {Q : Env → Shared → Prop}
  (h : Q (newEnv scope s.heap.objs.size globals (cellsFrom (s.heap.objs.size + 1) scope.names closure) qual func code (some around) builtins)
   { s with heap := pushCells (s.heap.push { cls := .type "dict", data := .dict #[] }) scope.names }) :
  wpAny M A (newFunctionEnv scope globals closure [] qual func code (some around) builtins) Q E s := by
 simp only [newFunctionEnv, Option.isSome_some, if_true]
 refine wpAny_bind (wpAny_alloc ?_)
 refine wpAny_bind (wpAny_layCells _ (fun n k c => rfl) scope.names closure _ _ ?_)
 rw [show ({ s with heap := s.heap.push { cls := .type "dict", data := .dict #[] } } : Shared).heap.objs.size = s.heap.objs.size + 1 from Heap.size_push ..]
 rw [List.forIn_nil]
 exact wpAny_bind (wpAny_pure (wpAny_pure h))
theorem lookup_relS {sc : Scope} : ∀ {names : List (Str × NameKind)} {x : Str} {k : NameKind},
  (names.map fun (n, k) => if (k == NameKind.free && sc.kind == .function && sc.names.lookup n == some .cell) then (n, NameKind.cell) else (n, k)).lookup x = some k →
  ∃ k', names.lookup x = some k' ∧ (k = k' ∨ (k' = .free ∧ k = .cell))
 | [], _, _, h => by simp at h
 | (n, k₀) :: r, x, k, h => by
  have ih := @lookup_relS sc r x k
  have h' : List.lookup x ((if (k₀ == NameKind.free && sc.kind == .function && sc.names.lookup n == some .cell) = true then (n, NameKind.cell) else (n, k₀)) :: (r.map _)) = some k := h
  cases hx : x == n with
  | true =>
   simp only [List.lookup_cons, hx]
   by_cases hc : (k₀ == NameKind.free && sc.kind == .function && sc.names.lookup n == some .cell) = true
   ·rw [if_pos hc] at h'
    simp only [List.lookup_cons, hx] at h'
    cases h'
    simp only [Bool.and_eq_true, beq_iff_eq] at hc
    exact ⟨k₀, rfl, .inr ⟨hc.1.1, rfl⟩⟩
   ·rw [if_neg hc] at h'
    simp only [List.lookup_cons, hx] at h'
    cases h'
    exact ⟨_, rfl, .inl rfl⟩
  | false =>
   simp only [List.lookup_cons, hx]
   by_cases hc : (k₀ == NameKind.free && sc.kind == .function && sc.names.lookup n == some .cell) = true
   ·rw [if_pos hc] at h'
    simp only [List.lookup_cons, hx] at h'
    exact ih h'
   ·rw [if_neg hc] at h'
    simp only [List.lookup_cons, hx] at h'
    exact ih h'
structure BlkOk (N : List Str) (sc scope : Scope) (own : List (Str × Nat)) : Prop where
 kind : scope.kind = .function
 uniq : ∀ y ∈ scope.names, scope.names.lookup y.1 = some y.2
 ix : ∀ p ∈ own, N[p.2]? = some p.1
 free : ∀ y ∈ scope.names, y.2 = .free → sc.names.lookup y.1 = some .cell ∨ sc.names.lookup y.1 = some .free
 own : ∀ y ∈ scope.names, y.2 = .local ∨ y.2 = .cell → y.1 ∈ own.map (·.1) ∨ y.1 ∉ N
def wipe (σ : St) : List Nat → St
 | [] => σ
 | v :: vs => (wipe σ vs).set v none
theorem wipe_length (σ : St) : ∀ vs : List Nat, (wipe σ vs).length = σ.length
 | [] => rfl
 | v :: vs => by unfold wipe; rw [List.length_set, wipe_length σ vs]
theorem wipe_some {σ : St} {i : Nat} {x : V} : ∀ {vs : List Nat}, (wipe σ vs)[i]? = some (some x) → σ[i]? = some (some x) ∧ i ∉ vs
 | [], h => ⟨h, by simp⟩
 | v :: vs, h => by
  unfold wipe at h
  by_cases hi : v = i
  ·subst hi
   by_cases hv : v < (wipe σ vs).length
   ·rw [List.getElem?_set_self hv] at h; cases h
   ·rw [List.getElem?_eq_none (by simpa using hv)] at h; cases h
  ·rw [List.getElem?_set_ne hi] at h
   obtain ⟨h1, h2⟩ := wipe_some h
   exact ⟨h1, by simp only [List.mem_cons, not_or]; exact ⟨fun e => hi e.symm, h2⟩⟩
abbrev Cx.blk (X : Cx) (s : Shared) (H : Hp) (scope : Scope) (cenv : Env) (fp : List Addr) : Cx := { X with s_0 := s, H_0 := H, env := cenv, outer := X.stack, ex := fp, fn := fun x => scope.names.lookup x == some .cell, pn := [], xe := fun _ _ => False }
section
variable {X : Cx} {pins : List (Addr × Obj)} {σ : St} {H : Hp} {s : Shared}
theorem block_start {scope : Scope} {own : List (Str × Nat)} {fp : List Addr} (I : Inv X pins σ H s) (ok : BlkOk X.N X.env.scope scope own) (hN : X.N.Nodup) (hfp : ∀ b ∈ fp, FpOk X pins H b ∧ b < s.heap.objs.size) :
  Inv (X.blk s H scope (compEnvC scope (cellsFrom (s.heap.objs.size + 1) scope.names (cloFrom X.env.cells scope.names [])) s.heap.objs.size X.env) fp) [] (wipe σ (own.map (·.2))) H { s with heap := pushCells (s.heap.push { cls := .type "dict", data := .dict #[] }) scope.names } := by
 have hfree : ∀ y ∈ scope.names, y.2 = .free → ∃ c, X.env.cells.lookup y.1 = some c := fun y hy e => by
  rcases ok.free y hy e with k | k
  ·exact I.ok.has _ (.inl k)
  ·exact I.ok.has _ (.inr k)
 generalize hcenv : compEnvC scope (cellsFrom (s.heap.objs.size + 1) scope.names (cloFrom X.env.cells scope.names [])) s.heap.objs.size X.env = cenv
 have kp : ∀ b o, s.heap.get? b = some o → (pushCells (s.heap.push { cls := .type "dict", data := .dict #[] }) scope.names).get? b = some o := fun b o e => pushCells_keeps _ _ _ _ (Heap.get?_push_of_some _ e)
 have hL : cenv.locals = s.heap.objs.size := by rw [← hcenv]; rfl
 have hcl : cenv.cells = cellsFrom (s.heap.objs.size + 1) scope.names (cloFrom X.env.cells scope.names []) := by rw [← hcenv]; rfl
 have hsc : cenv.scope = relS scope X.env.scope := by rw [← hcenv]; rfl
 rw [← Heap.size_push s.heap { cls := .type "dict", data := .dict #[] }] at hcl
 have cm : ∀ {y c}, (y, c) ∈ cloFrom X.env.cells scope.names [] → X.env.cells.lookup y = some c ∧ c < s.heap.objs.size := fun {y c} hm => by
  rcases cloFrom_mem hm with hm | ⟨h1, rfl⟩
  ·cases hm
  ·obtain ⟨c, hc⟩ := hfree _ h1 rfl
   rw [hc]
   obtain ⟨w, z⟩ := I.cell _ _ hc
   exact ⟨rfl, z.lt⟩
 have mem : ∀ {y c}, cenv.cells.lookup y = some c → (X.env.cells.lookup y = some c ∧ c < s.heap.objs.size) ∨ (s.heap.objs.size + 1 ≤ c ∧ CellAt (pushCells (s.heap.push { cls := .type "dict", data := .dict #[] }) scope.names) c none) := fun {y c} e => by
  rw [hcl] at e
  rcases cells_mem (PySem.mem_of_lookup e) with hm | ⟨_, h2, h3⟩
  ·exact .inl (cm hm)
  ·rw [Heap.size_push] at h2; exact .inr ⟨h2, h3⟩
 have look : ∀ {y}, scope.names.lookup y = some .free → ∃ c, cenv.cells.lookup y = some c ∧ X.env.cells.lookup y = some c := fun {y} hl => by
  have hy : (y, NameKind.free) ∈ scope.names := PySem.mem_of_lookup hl
  obtain ⟨c', e'⟩ := mem_lookup (cells_acc (names := scope.names) (n := (s.heap.push { cls := .type "dict", data := .dict #[] }).objs.size) (cloFrom_has (cells := X.env.cells) (acc := []) hy))
  rw [← hcl] at e'
  refine ⟨c', e', ?_⟩
  rw [hcl] at e'
  rcases cells_mem (PySem.mem_of_lookup e') with hm | ⟨h1, _, _⟩
  ·exact (cm hm).1
  ·have := ok.uniq _ h1
   rw [hl] at this; cases this
 have okB : (X.blk s H scope cenv fp).Ok := by
  refine ⟨I.ok.mod, by show cenv.scope.kind = _; rw [hsc]; exact ok.kind, by show cenv.globals = _; rw [← hcenv]; exact I.ok.glob, by show cenv.builtins = _; rw [← hcenv]; exact I.ok.blt, by show s.heap.objs.size ≤ cenv.locals; rw [hL]; exact Nat.le_refl _,
   fun y z c e1 e2 => ?_, fun y hy => ?_, fun y c z e => ?_, I.ok.hd, I.ok.frames, .inl rfl, fun b hb => ⟨?_, fun y c e z => ?_⟩, I.bs, Nat.le_trans I.ok.bsz I.sz, fun b o e hb => ?_, fun b hb z => ?_, I.stack, I.stkFree⟩
  ·have e1 : cenv.cells.lookup y = some c := e1
   have e2 : cenv.cells.lookup z = some c := e2
   rw [hcl] at e1 e2
   refine cells_inj (fun p hp => ?_) (fun y z c a b => I.ok.inj y z c (cm a).1 (cm b).1) (PySem.mem_of_lookup e1) (PySem.mem_of_lookup e2)
   rw [Heap.size_push]
   exact Nat.lt_succ_of_lt (cm (y := p.1) (c := p.2) hp).2
  ·show ∃ c, cenv.cells.lookup y = some c
   have key : ∀ k, cenv.kindOf y = some k → (k = .cell ∨ k = .free) → ∃ c, cenv.cells.lookup y = some c := fun k hk hk' => by
    unfold Env.kindOf at hk
    rw [hsc] at hk
    obtain ⟨k', e, r⟩ := lookup_relS hk
    have : k' = .cell ∨ k' = .free := by
     rcases r with rfl | ⟨rfl, _⟩
     ·exact hk'
     ·exact .inr rfl
    rcases this with rfl | rfl
    ·obtain ⟨c, hm⟩ := cells_has (n := (s.heap.push { cls := .type "dict", data := .dict #[] }).objs.size) (acc := cloFrom X.env.cells scope.names []) (PySem.mem_of_lookup e)
     obtain ⟨c', e'⟩ := mem_lookup hm
     exact ⟨c', by rw [hcl]; exact e'⟩
    ·obtain ⟨c, h1, _⟩ := look e
     exact ⟨c, h1⟩
   rcases hy with hy | hy
   ·exact key _ hy (.inl rfl)
   ·exact key _ hy (.inr rfl)
  ·have z : (scope.names.lookup y == some NameKind.cell) = true := z
   have z : scope.names.lookup y = some .cell := by simpa using z
   have e : cenv.cells.lookup y = some c := e
   rw [hcl] at e
   rcases cells_mem (PySem.mem_of_lookup e) with hm | ⟨_, h2, _⟩
   ·rcases cloFrom_mem hm with hm | ⟨h1, _⟩
    ·cases hm
    ·have q := ok.uniq _ h1
     rw [z] at q; cases q
   ·rw [Heap.size_push] at h2
    exact Nat.le_of_succ_le h2
  ·show b ≠ cenv.locals
   rw [hL]; exact Nat.ne_of_lt (hfp b hb).2
  ·have e : cenv.cells.lookup y = some c := e
   rcases mem e with ⟨h1, _⟩ | ⟨h1, _⟩
   ·exact (hfp b hb).1.2.2.2.2.1 y c h1 z
   ·have h2 : s.heap.objs.size + 1 ≤ b := by rw [← z]; exact h1
    exact absurd (Nat.lt_of_lt_of_le (hfp b hb).2 (Nat.le_of_succ_le h2)) (Nat.lt_irrefl _)
  ·rcases (hfp b hb).1.2.2.2.1 with z | z
   ·exact I.ok.noex b o e z
   ·exact absurd (Nat.lt_of_lt_of_le (Heap.lt_size e) (Nat.le_trans I.ok.bsz z)) (Nat.lt_irrefl _)
  ·rcases List.mem_cons.mp (I.stkSub b z) with z | z
   ·exact (hfp b hb).1.2.1 z
   ·exact (hfp b hb).1.2.2.1 z
 refine ⟨okB, rfl, I.bare, Un.kept kp, ⟨fun _ => none, ?_, fun i y av e1 e2 e3 => ?_⟩, fun y c e => ?_, ?_, fun y c e => ?_, fun p hp => ?_, I.hok.kept kp, by rw [wipe_length]; exact I.len⟩
 ·show Heap.Ns _ cenv.locals _
  rw [hL]
  exact Heap.Ns.keeps (Heap.Ns.new ..) fun b o e => pushCells_keeps _ _ _ _ e
 ·obtain ⟨e2, hne⟩ := wipe_some e2
  have hfr : scope.names.lookup y = some .free ∧ (cenv.kindOf y = some .cell ∨ cenv.kindOf y = some .free) := by
   have key : ∀ k, cenv.scope.names.lookup y = some k → k = .local ∨ k = .cell ∨ k = .free → scope.names.lookup y = some .free ∧ (cenv.kindOf y = some .cell ∨ cenv.kindOf y = some .free) := fun k hk hk' => by
    have hk0 := hk
    rw [hsc] at hk
    obtain ⟨k', e, r⟩ := lookup_relS hk
    have no : ¬ (k' = .local ∨ k' = .cell) := fun hh => by
     rcases ok.own _ (PySem.mem_of_lookup e) hh with e' | e'
     ·obtain ⟨p, hp, hpy⟩ := List.mem_map.mp e'
      have e3 := ok.ix p hp
      have : p.1 = y := hpy
      rw [this] at e3
      exact hne (List.mem_map.mpr ⟨p, hp, nodup_ix hN e3 e1⟩)
     ·exact e' (List.mem_of_getElem? e1)
    rcases r with rfl | ⟨rfl, rfl⟩
    ·rcases hk' with rfl | rfl | rfl
     ·exact absurd (.inl rfl) no
     ·exact absurd (.inr rfl) no
     ·exact ⟨e, .inr hk0⟩
    ·exact ⟨e, .inl hk0⟩
   have e3 : Vis cenv.scope y := e3
   rcases e3 with e3 | e3 | e3
   ·exact key _ e3 (.inl rfl)
   ·exact key _ e3 (.inr (.inl rfl))
   ·exact key _ e3 (.inr (.inr rfl))
  obtain ⟨m, hn, hl⟩ := I.loc
  have hvis : Vis X.env.scope y := (ok.free _ (PySem.mem_of_lookup hfr.1) rfl).elim (fun k => .inr (.inl k)) (fun k => .inr (.inr k))
  obtain ⟨w, r, q⟩ := hl i y av e1 e2 hvis
  refine ⟨w, r, .inr ⟨hfr.2, ?_⟩⟩
  obtain ⟨c, h1, h2⟩ := look hfr.1
  rcases q with ⟨k, _⟩ | ⟨_, c', e', z⟩
  ·have k : X.env.scope.names.lookup y = some .local := k
   rcases ok.free _ (PySem.mem_of_lookup hfr.1) rfl with k' | k' <;> rw [show X.env.scope.names.lookup y = _ from k'] at k <;> cases k
  ·rw [h2] at e'; cases e'
   exact ⟨c, h1, z.keeps kp⟩
 ·have e : cenv.cells.lookup y = some c := e
  rcases mem e with ⟨h1, _⟩ | ⟨_, z⟩
  ·obtain ⟨w, z⟩ := I.cell y c h1
   exact ⟨w, z.keeps kp⟩
  ·exact ⟨_, z⟩
 ·show H cenv.locals = none
  rw [hL]; exact I.hok.fresh (Nat.le_refl _)
 ·have e : cenv.cells.lookup y = some c := e
  rcases mem e with ⟨h1, _⟩ | ⟨h1, _⟩
  ·exact I.freeC y c h1
  ·exact I.hok.fresh (Nat.le_of_succ_le h1)
 ·exact absurd (show p ∈ ([] : List (Addr × Obj)) ++ [] from hp) (by simp)
theorem app_ok {E : Value → Shared → Prop} {D : Addr} {xs : List V} {y : V} {v : Value} {Q : Value → Shared → Prop} (I : Inv X pins σ H s) (hD : H D = some (.lst xs)) (hz : xs.length < sizeLine) (r : RelV y v)
  (h : ∀ s', Inv X pins σ (upd H D (.lst (xs ++ [y]))) s' → Q .none s') : wpAny (model X.prog X.w) X.A (call (.builtin "list.append") [.ref D, v]) Q E s := by
 obtain ⟨hz', its, n, ri, e⟩ := I.hok D _ hD
 have hl := ri.length
 refine append_at (hsz := by rw [List.size_toArray]; omega) e fun h' sb ho' => ?_
 refine h { s with heap := h' } (I.write (t' := s.toks) (by rw [hD]; trivial) (.inl rfl) (fun b u hb q => (sb.2 b hb).trans q) ⟨_, ho'⟩ ⟨by rw [List.length_append]; exact hz, its ++ [v], n + 1, ri.append (.cons r .nil), ?_⟩)
 rw [ho']
 simp
def PTs (X : Cx) (ifs : List Expr) (t : TT) : Prop :=
 ∀ (pins : List (Addr × Obj)) (s : Shared) (σ : St) (H : Hp) (Q : Bool → Hp → Prop), Inv X pins σ H s → t σ H Q →
  wpAny (model X.prog X.w) X.A (forIn ifs true fun c r => if r = true then do let ok ← isTrue c X.env (eval c X.env); pure (ForInStep.yield ok) else pure (ForInStep.yield r)) (TP X pins σ Q) X.xe s
def tYes : TT := fun _ H Q => Q true H
theorem pts_nil : PTs X [] tYes := fun _ _ _ H _ I h => wpAny_tests_nil ⟨H, I, h⟩
theorem pts_one {c : Expr} {t : TT} (h : PT X c t) : PTs X [c] t := fun pins s σ H Q I hw => wpAny_tests_one (h pins s σ H Q I hw)
end
theorem thnF {α : Type} {t : Sem α} {Q Q' : α → Shared → Prop} {M : Model} {A : Around} {E : Value → Shared → Prop} {s : Shared} (h : wpAny M A t Q (fun _ _ => False) s) (hQ : ∀ a s, Q a s → Q' a s) : wpAny M A t Q' E s := wpAny_mono h hQ fun _ _ z => False.elim z
theorem compLoop_any {prog : Program} {w : World} {A : Around} {R : Result → Shared → Prop} {s : Shared} {elt target iter : Expr} {ifs : List Expr} {scope : Scope} {pos : Pos} {it acc : Value} {env : Env} (I : Nat → Shared → Prop)
  (turn : ∀ n s, I n s → wpAny (model prog w) A (pyNext it) (fun r s₁ => match r with
   | none => R (.ok .next) s₁
   | some v => wpAny (model prog w) A (letOwnedTupleGo target it v) (fun _ s₁' => wpAny (model prog w) A (assign target env v) (fun _ s₂ =>
     wpAny (model prog w) A (forIn ifs true fun c r => if r = true then do let ok ← isTrue c env (eval c env); pure (ForInStep.yield ok) else pure (ForInStep.yield r)) (fun ok s₃ =>
      if ok = true then wpAny (model prog w) A (eval elt env) (fun x s₄ =>
       wpAny (model prog w) A (call (.builtin "list.append") [acc, x]) (fun _ s₅ => ∃ m, m < n ∧ I m s₅) (notedBy (model prog w) A env fun e s' => R (.error e) s') s₄) (notedBy (model prog w) A env fun e s' => R (.error e) s') s₃
      else ∃ m, m < n ∧ I m s₃) (notedBy (model prog w) A env fun e s' => R (.error e) s') s₂) (notedBy (model prog w) A env fun e s' => R (.error e) s') s₁') (notedBy (model prog w) A env fun e s' => R (.error e) s') s₁) (notedBy (model prog w) A env fun e s' => R (.error e) s') s)
  (n : Nat) (h : I n s) :
  codeAny (model prog w) A (.compLoop (.ListComp elt [⟨target, iter, ifs, 0⟩] scope pos) 0 it acc env) R s := by
 refine codeAny_loop rfl I (fun n s hI => ?_) n h
 show wpAny _ A ((compTurn (.ListComp elt [⟨target, iter, ifs, 0⟩] scope pos) 0 it acc env).onRaise (fun x => do noteFrame x env; theTreesLotGoes x)) _ _ s
 refine wpAny_noted ?_
 rw [compTurn_list]
 refine wpAny_bind (wpAny_standAt (wpAny_bind (wpAny_mono (turn n s hI) (fun r s₁ h₁ => ?_) fun _ _ h' => h')))
 cases r with
 | none => exact wpAny_pure h₁
 | some v =>
  refine wpAny_bind (wpAny_mono h₁ (fun _ s₁' h₁' => ?_) fun _ _ h' => h')
  refine wpAny_bind (wpAny_mono h₁' (fun _ s₂ h₂ => wpAny_bind (wpAny_mono h₂ (fun ok s₃ h₃ => ?_) fun _ _ h' => h')) fun _ _ h' => h')
  cases ok with
  | false => exact wpAny_pure ⟨rfl, h₃⟩
  | true =>
   exact wpAny_bind (wpAny_bind (wpAny_mono h₃ (fun x s₄ h₄ => wpAny_bind (wpAny_mono h₄ (fun _ s₅ h₅ => wpAny_pure (wpAny_pure ⟨rfl, h₅⟩)) fun _ _ h' => h')) fun _ _ h' => h'))
section
variable {X : Cx}
def tLc (wi : TI) (g : TG) (tt : TT) (te : TE) (vs : List Nat) : TE := fun σ H Q => wi σ H fun J H1 => ∀ D, H1 D = none → ∃ W : Nat → Nat → Hp → Prop, (∃ m, W 0 m (upd H1 D (.lst []))) ∧ ∀ i m H, W i m H →
 (J.stop i H ∧ Q (.ref D) H) ∨ (J.go i H ∧ ∃ Nx : Hp → Prop, (∀ H', Nx H' → ∃ m', m' < m ∧ W (i + 1) m' H') ∧ ∀ x H', J.yld i H x H' → g x (wipe σ vs) H' fun σ2 H2 => wipe σ2 vs = wipe σ vs ∧ tt σ2 H2 fun b H3 =>
  if b = true then te σ2 H3 fun y H4 => ∃ acc, H4 D = some (.lst acc) ∧ acc.length < sizeLine ∧ Nx (upd H4 D (.lst (acc ++ [y]))) else Nx H3)
theorem lc_core {pins : List (Addr × Obj)} {s : Shared} {σ : St} {H : Hp} {Q : VK} {elt tg iter : Expr} {ifs : List Expr} {scope : Scope} {own : List (Str × Nat)} {pos pos' : Pos} {wi : TI} {g : TG} {tt : TT} {te : TE} {use : Option (Value → Sem Unit)} {Qf : Value → Shared → Prop}
  (hc : X.calm = true) (hN : X.N.Nodup) (I : Inv X pins σ H s) (hi : PI X tg iter wi) (ok : BlkOk X.N X.env.scope scope own)
  (hg : ∀ (s : Shared) (H : Hp) (C : Addr) (cl : List (Str × Addr)) (fp : List Addr), PG (X.blk s H scope (compEnvC scope cl C X.env) fp) tg g) (ht : ∀ (s : Shared) (H : Hp) (C : Addr) (cl : List (Str × Addr)) (fp : List Addr), PTs (X.blk s H scope (compEnvC scope cl C X.env) fp) ifs tt)
  (he : ∀ (s : Shared) (H : Hp) (C : Addr) (cl : List (Str × Addr)) (fp : List Addr), PE (X.blk s H scope (compEnvC scope cl C X.env) fp) elt te) (hs : ∀ x, foldedSetIterable iter X.env x = pure x)
  (h : tLc wi g tt te (own.map (·.2)) σ H Q)
  (hRR : ∀ D C s' m H', Inv X pins σ H' s' → Q (.ref D) H' → s'.heap.Ns C m → FpOk X pins H' C → compPost (model X.prog X.w) X.A X.xe use Qf (.ref D) C (.ok .next) s') :
  wpAny (model X.prog X.w) X.A (comprehension (.ListComp elt [⟨tg, iter, ifs, 0⟩] scope pos) scope X.env pos' (newList []) false (eval iter X.env) use) Qf X.xe s := by
 have hfree : ∀ y ∈ scope.names, y.2 = .free → ∃ c, X.env.cells.lookup y.1 = some c := fun y hy e => by
  rcases ok.free y hy e with k | k
  ·exact I.ok.has _ (.inl k)
  ·exact I.ok.has _ (.inr k)
 refine wpAny_comprehension_free (use := use) rfl hs (closure_ok hfree) ok.kind (fun y hy e => by rw [ok.uniq y hy, e])
  (thn (hi pins s σ H _ I h) fun xv s1 hx => thn hx fun itv s2 h2 => ?_)
 obtain ⟨it, fp, tn, J, H2, e, I2, T, st2, f2, q⟩ := h2
 subst e
 refine wpAny_newObj_type (newEnv_comp ?_) (by show 0 ≤ sizeLine; decide)
 generalize hD : s2.heap.objs.size = D
 have hDn : H2 D = none := I2.hok.fresh (Nat.le_of_eq hD)
 obtain ⟨W, ⟨m0, w0⟩, turn⟩ := q D hDn
 generalize hs3 : ({ s2 with heap := s2.heap.push { cls := .type "list", data := .seq ([] : List Value).toArray } } : Shared) = s3
 have I3 : Inv X pins σ (upd H2 D (.lst [])) s3 := by
  rw [← hs3]
  refine I2.laid (t' := s2.toks) (fun b o e => Heap.get?_push_of_some _ e) (Nat.le_of_eq hD) ⟨Nat.zero_le _, [], 0, .nil, ?_⟩
  rw [← hD]
  exact Heap.get?_push_size _ rfl
 have h3 : s3.heap = s2.heap.push { cls := .type "list", data := .seq ([] : List Value).toArray } := by rw [← hs3]
 have sz : ∀ b ∈ fp, b < s2.heap.objs.size := fun b hb => by
  obtain ⟨o, e, _⟩ := T.obj _ _ st2 b hb
  exact Heap.lt_size e
 have f3 : ∀ b ∈ fp, FpOk X pins (upd H2 D (.lst [])) b ∧ b < s3.heap.objs.size := fun b hb => by
  have hlt := sz b hb
  refine ⟨⟨?_, (f2 b hb).2⟩, by rw [h3, Heap.size_push]; exact Nat.lt_succ_of_lt hlt⟩
  rw [uN (by rw [← hD]; exact Nat.ne_of_lt hlt)]
  exact (f2 b hb).1
 have st3 : tn 0 s3.heap := T.keep _ _ _ st2 fun b _ o e => by rw [h3]; exact Heap.get?_push_of_some _ e
 have I4 := block_start I3 ok hN f3
 have pg := hg s3 (upd H2 D (.lst [])) s3.heap.objs.size (cellsFrom (s3.heap.objs.size + 1) scope.names (cloFrom X.env.cells scope.names [])) fp
 have pt := ht s3 (upd H2 D (.lst [])) s3.heap.objs.size (cellsFrom (s3.heap.objs.size + 1) scope.names (cloFrom X.env.cells scope.names [])) fp
 have pe := he s3 (upd H2 D (.lst [])) s3.heap.objs.size (cellsFrom (s3.heap.objs.size + 1) scope.names (cloFrom X.env.cells scope.names [])) fp
 show codeAny _ _ (.compStart (.ListComp elt [⟨tg, iter, ifs, 0⟩] scope pos) 0 (.ref it) (.ref D) (compEnvC scope (cellsFrom (s3.heap.objs.size + 1) scope.names (cloFrom X.env.cells scope.names [])) s3.heap.objs.size X.env)) (compPost (model X.prog X.w) X.A X.xe use Qf (.ref D) s3.heap.objs.size) { s3 with heap := pushCells (s3.heap.push { cls := .type "dict", data := .dict #[] }) scope.names }
 have nfp : ∀ b ∈ fp, (upd H2 D (.lst [])) b = none := fun b hb => (f3 b hb).1.1
 generalize hce : compEnvC scope (cellsFrom (s3.heap.objs.size + 1) scope.names (cloFrom X.env.cells scope.names [])) s3.heap.objs.size X.env = ce at I4 pg pt pe ⊢
 have cL : ce.locals = s3.heap.objs.size := by subst hce; rfl
 generalize hH3 : upd H2 D (.lst []) = H3 at I3 I4 pg pt pe w0 nfp f3
 generalize hs4 : ({ s3 with heap := pushCells (s3.heap.push { cls := .type "dict", data := .dict #[] }) scope.names } : Shared) = s4 at I4 ⊢
 have st4 : tn 0 s4.heap := T.keep _ _ _ st3 fun b _ o e => by rw [← hs4]; exact pushCells_keeps _ _ _ _ (Heap.get?_push_of_some _ e)
 have stat : ∀ {σ' : St} {H' : Hp} {s' : Shared}, Inv (X.blk s3 H3 scope ce fp) [] σ' H' s' → (∀ b ∈ fp, H' b = none) → ∀ b ∈ fp, FpOk (X.blk s3 H3 scope ce fp) [] H' b := fun {σ' H' s'} I' hn b hb =>
  ⟨hn b hb, (I'.ok.exf b hb).1, I'.ok.exfs b hb, .inl hb, fun x c e => (I'.ok.exf b hb).2 x c e, fun p hp => absurd (show p ∈ ([] : List (Addr × Obj)) ++ [] from hp) (by simp)⟩
 have loop : codeAny (model X.prog X.w) X.A (.compLoop (.ListComp elt [⟨tg, iter, ifs, 0⟩] scope pos) 0 (.ref it) (.ref D) ce) (compPost (model X.prog X.w) X.A X.xe use Qf (.ref D) s3.heap.objs.size) s4 := by
  refine compLoop_any (fun n s' => ∃ i H', Inv (X.blk s3 H3 scope ce fp) [] (wipe σ (own.map (·.2))) H' s' ∧ tn i s'.heap ∧ (∀ b ∈ fp, H' b = none) ∧ W i n H') ?_ m0 ⟨0, H3, I4, st4, nfp, w0⟩
  rintro n s5 ⟨i, H5, I5, st5, n5, w5⟩
  rcases turn i n H5 w5 with ⟨stop, qq⟩ | ⟨go, Nx, hNx, step⟩
  ·have td := T.done (X.blk s3 H3 scope ce fp) rfl rfl rfl hc i [] s5 _ H5 (fun _ _ => False) I5 (stat I5 n5) st5 stop
   refine thnF td fun r s6 ⟨hr, I6⟩ => ?_
   subst hr
   have I7 : Inv X pins σ H5 s6 := I3.call' (ch := fp) I6.os I6.base I6.hok I6.bare fun b hb => ⟨(f3 b hb).1.2.2.2.1, (f3 b hb).1.2.1, (f3 b hb).1.2.2.2.2.1, (f3 b hb).1.2.2.2.2.2⟩
   have nC : H5 s3.heap.objs.size = none := by
    have z : H5 ce.locals = none := I6.free
    rw [cL] at z
    exact z
   obtain ⟨m, hn, _⟩ := I6.loc
   have hn : s6.heap.Ns ce.locals m := hn
   rw [cL] at hn
   exact hRR D s3.heap.objs.size s6 m H5 I7 qq hn (I3.fpOk (Nat.le_refl _) nC)
  ·have ti := T.item (X.blk s3 H3 scope ce fp) rfl rfl rfl hc i [] s5 _ H5 (fun _ _ => False) I5 (stat I5 n5) st5 go
   refine thnF ti fun r s6 ⟨u, hr, h6⟩ => ?_
   subst hr
   refine thnF h6 fun _ s7 ⟨x, H7, I7, r7, y7, st7, n7⟩ => ?_
   have I7' := I7.pinned (stat I7 n7) (T.obj _ _ st7)
   refine thnF (pg _ s7 _ H7 x u _ I7' r7 (step x H7 y7)) fun _ s8 ⟨σ8, H8, I8, hw8, q8⟩ => ?_
   refine thnF (pt _ s8 σ8 H8 _ I8 q8) fun b s9 ⟨H9, I9, q9⟩ => ?_
   have fin : ∀ {s' : Shared} {H' : Hp}, Inv (X.blk s3 H3 scope ce fp) ([] ++ pinsAt fp s7.heap) σ8 H' s' → Nx H' → ∃ m, m < n ∧ ∃ i H', Inv (X.blk s3 H3 scope ce fp) [] (wipe σ (own.map (·.2))) H' s' ∧ tn i s'.heap ∧ (∀ b ∈ fp, H' b = none) ∧ W i m H' := fun {s' H'} I' nx => by
    obtain ⟨m', hm, w'⟩ := hNx H' nx
    have pin' : ∀ b ∈ fp, ∀ o, s7.heap.get? b = some o → s'.heap.get? b = some o ∧ H' b = none := fun b hb o e =>
     let z := I'.pin (b, o) (List.mem_append_right _ (List.mem_append_right _ (mem_pinsAt hb e)))
     ⟨z.1, z.2.1⟩
    have hl : (wipe σ (own.map (·.2))).length = σ8.length := by rw [← hw8, wipe_length]
    refine ⟨m', hm, i + 1, H', (I'.unpinned (pins := [])).weak hl (fun j v e => ?_), T.keep _ _ _ st7 fun b hb o e => (pin' b hb o e).1, fun b hb => ?_, w'⟩
    ·rw [← hw8] at e
     exact (wipe_some e).1
    ·obtain ⟨o, e, _⟩ := T.obj _ _ st7 b hb
     exact (pin' b hb o e).2
   cases b with
   | false =>
    simp only [Bool.false_eq_true, if_false] at q9 ⊢
    exact fin I9 q9
   | true =>
    simp only [if_true] at q9 ⊢
    refine thnF (pe _ s9 σ8 H9 _ I9 q9) fun z s10 ⟨yv, H10, I10, r10, acc, hD10, hz10, nx⟩ => ?_
    exact app_ok (X := X.blk s3 H3 scope ce fp) I10 hD10 hz10 r10 fun s11 I11 => fin I11 nx
 exact codeAny_compStart_list loop (T.self X.A 0 _ _ _ st4 loop)
theorem pe_lc {elt tg iter : Expr} {ifs : List Expr} {scope : Scope} {own : List (Str × Nat)} {pos : Pos} {wi : TI} {g : TG} {tt : TT} {te : TE} (hc : X.calm = true) (hN : X.N.Nodup) (hi : PI X tg iter wi) (ok : BlkOk X.N X.env.scope scope own)
  (hg : ∀ (s : Shared) (H : Hp) (C : Addr) (cl : List (Str × Addr)) (fp : List Addr), PG (X.blk s H scope (compEnvC scope cl C X.env) fp) tg g) (ht : ∀ (s : Shared) (H : Hp) (C : Addr) (cl : List (Str × Addr)) (fp : List Addr), PTs (X.blk s H scope (compEnvC scope cl C X.env) fp) ifs tt)
  (he : ∀ (s : Shared) (H : Hp) (C : Addr) (cl : List (Str × Addr)) (fp : List Addr), PE (X.blk s H scope (compEnvC scope cl C X.env) fp) elt te) (hs : ∀ x, foldedSetIterable iter X.env x = pure x := by intro _; rfl) :
  PE X (.ListComp elt [⟨tg, iter, ifs, 0⟩] scope pos) (tLc wi g tt te (own.map (·.2))) := by
 intro pins s σ H Q I h
 rw [eval_ListComp]
 refine lc_core hc hN I hi ok hg ht he hs h fun D C s' m H' I' q hn f => ⟨m, hn, fun h'' sb => ?_⟩
 obtain ⟨f0, f1, f2, f3, f4, f5⟩ := f
 exact ⟨.ref D, H', I'.turned (t' := s'.toks) (fun b o hb e => (sb.2 b hb).trans e) f0 f1 f3 f4 f5, rfl, q⟩
theorem ps_setLc {i : Nat} {y : Str} {py : Pos} {elt tg iter : Expr} {ifs : List Expr} {scope : Scope} {own : List (Str × Nat)} {pos spos : Pos} {wi : TI} {g : TG} {tt : TT} {te : TE} (hc : X.calm = true) (hN : X.N.Nodup) (hy : X.N[i]? = some y) (hyl : X.env.scope.names.lookup y = some .local)
  (hsw : swapsWith (.ListComp elt [⟨tg, iter, ifs, 0⟩] scope pos) (some (.Name y py)) spos.line X.env = pure true) (hi : PI X tg iter wi) (ok : BlkOk X.N X.env.scope scope own)
  (hg : ∀ (s : Shared) (H : Hp) (C : Addr) (cl : List (Str × Addr)) (fp : List Addr), PG (X.blk s H scope (compEnvC scope cl C X.env) fp) tg g) (ht : ∀ (s : Shared) (H : Hp) (C : Addr) (cl : List (Str × Addr)) (fp : List Addr), PTs (X.blk s H scope (compEnvC scope cl C X.env) fp) ifs tt)
  (he : ∀ (s : Shared) (H : Hp) (C : Addr) (cl : List (Str × Addr)) (fp : List Addr), PE (X.blk s H scope (compEnvC scope cl C X.env) fp) elt te) (hs : ∀ x, foldedSetIterable iter X.env x = pure x := by intro _; rfl) :
  PS X (.Assign [.Name y py] (.ListComp elt [⟨tg, iter, ifs, 0⟩] scope pos) spos) (tAsg (tLc wi g tt te (own.map (·.2))) (gName i)) := by
 intro pins s σ H D I h
 rw [exec_Assign_Name_used _ _ _ _ hsw]
 refine wpAny_bind (wpAny_standAt (wpAny_bind ?_))
 show wpAny _ X.A (do let _ ← comprehension (.ListComp elt [⟨tg, iter, ifs, 0⟩] scope pos) scope X.env (firstIterPos [⟨tg, iter, ifs, 0⟩] pos) (newList []) false (eval iter X.env) (some (assign (.Name y py) X.env))) _ _ s
 have h : tLc wi g tt te (own.map (·.2)) σ H (fun x H1 => gName i x σ H1 D.nx) := h
 refine wpAny_bind (thn (lc_core (Qf := fun _ s' => SP X pins D .next s') hc hN I hi ok hg ht he hs h fun L C s' m H' I' q hn f => ?_) fun _ s' hq => wpAny_pure (wpAny_pure hq))
 show wpAny _ _ (assign (.Name y py) X.env (.ref L)) _ _ _
 refine wpAny_assign_Name (store_ok2 (v := V.ref L) I' hN hy (.inl hyl) rfl (fun s2 I2 ⟨a, sb, ha⟩ => ?_) (.inr hyl))
 obtain ⟨f0, f1, f2, f3, f4, f5⟩ := f
 have haC : C ≠ a := by
  rcases ha with z | z
  ·rw [z]; exact f1
  ·exact fun e => f4 y a z e.symm
 refine ⟨m, hn.sameBut sb haC, fun h3 sb3 => ?_⟩
 exact ⟨_, H', I2.turned (t' := s2.toks) (fun b o hb e => (sb3.2 b hb).trans e) f0 f1 f3 f4 f5, q⟩
theorem sw_true {elt : Expr} {gs : List Comprehension} {scope : Scope} {pos py : Pos} {y : Str} {l : Nat} {env : Env} (hk : env.scope.kind = .function) (hy : env.scope.names.lookup y = some .local) (hl : (py.line == pos.line) = true)
  (ha : (scope.names.any fun (n, k) => n == y && (k == .local || k == .cell)) = false) : swapsWith (.ListComp elt gs scope pos) (some (.Name y py)) l env = pure true := by
 have ky : env.kindOf y = some .local := hy
 have hb : env.blockKind = .function := by unfold Env.blockKind; rw [hk]; rfl
 unfold swapsWith
 simp only [hb, ky, ha, Expr.pos, hl]
 rfl
end
theorem lc_range {lo : Int} {n : Nat} {g : TG} {tt : TT} {te : TE} {vs : List Nat} {σ : St} {H1 : Hp} {D : Addr} {Qd : Hp → Prop} (Pv : Nat → Hp → Prop) (h0 : Pv 0 (upd H1 D (.lst [])))
  (hs : ∀ i H, i < n → Pv i H → g (.int (lo + i)) (wipe σ vs) H fun σ2 H2 => wipe σ2 vs = wipe σ vs ∧ tt σ2 H2 fun b H3 =>
   if b = true then te σ2 H3 fun y H4 => ∃ acc, H4 D = some (.lst acc) ∧ acc.length < sizeLine ∧ Pv (i + 1) (upd H4 D (.lst (acc ++ [y]))) else Pv (i + 1) H3) (hd : ∀ H, Pv n H → Qd H) :
  ∃ W : Nat → Nat → Hp → Prop, (∃ m, W 0 m (upd H1 D (.lst []))) ∧ ∀ i m H, W i m H →
   ((Itr lo n).stop i H ∧ Qd H) ∨ ((Itr lo n).go i H ∧ ∃ Nx : Hp → Prop, (∀ H', Nx H' → ∃ m', m' < m ∧ W (i + 1) m' H') ∧ ∀ x H', (Itr lo n).yld i H x H' → g x (wipe σ vs) H' fun σ2 H2 => wipe σ2 vs = wipe σ vs ∧ tt σ2 H2 fun b H3 =>
    if b = true then te σ2 H3 fun y H4 => ∃ acc, H4 D = some (.lst acc) ∧ acc.length < sizeLine ∧ Nx (upd H4 D (.lst (acc ++ [y]))) else Nx H3) := by
 refine ⟨fun i m H => m = n - i ∧ i ≤ n ∧ Pv i H, ⟨n, by simp, Nat.zero_le _, h0⟩, ?_⟩
 rintro i m H ⟨rfl, hi, p⟩
 by_cases hlt : i < n
 ·refine .inr ⟨hlt, Pv (i + 1), fun H' p' => ⟨n - (i + 1), by omega, rfl, hlt, p'⟩, fun x H' y => ?_⟩
  obtain ⟨e, y⟩ := y
  subst e y
  exact hs i _ hlt p
 ·have e : i = n := by omega
  subst e
  exact .inl ⟨Nat.le_refl _, hd H p⟩
theorem lc_list {K : W.Frag} {a : Addr} {xs : List V} {g : TG} {tt : TT} {te : TE} {vs : List Nat} {σ : St} {H1 : Hp} {D : Addr} {Qd : Hp → Prop} (Pv : Nat → Hp → Prop) (h0 : Pv 0 (upd H1 D (.lst []))) (hl : ∀ i H, i ≤ xs.length → Pv i H → SqL K H a xs)
  (hs : ∀ i x H, xs[i]? = some x → Pv i H → g x (wipe σ vs) H fun σ2 H2 => wipe σ2 vs = wipe σ vs ∧ tt σ2 H2 fun b H3 =>
   if b = true then te σ2 H3 fun y H4 => ∃ acc, H4 D = some (.lst acc) ∧ acc.length < sizeLine ∧ Pv (i + 1) (upd H4 D (.lst (acc ++ [y]))) else Pv (i + 1) H3) (hd : ∀ H, Pv xs.length H → Qd H) :
  ∃ W : Nat → Nat → Hp → Prop, (∃ m, W 0 m (upd H1 D (.lst []))) ∧ ∀ i m H, W i m H →
   ((Itl K a).stop i H ∧ Qd H) ∨ ((Itl K a).go i H ∧ ∃ Nx : Hp → Prop, (∀ H', Nx H' → ∃ m', m' < m ∧ W (i + 1) m' H') ∧ ∀ x H', (Itl K a).yld i H x H' → g x (wipe σ vs) H' fun σ2 H2 => wipe σ2 vs = wipe σ vs ∧ tt σ2 H2 fun b H3 =>
    if b = true then te σ2 H3 fun y H4 => ∃ acc, H4 D = some (.lst acc) ∧ acc.length < sizeLine ∧ Nx (upd H4 D (.lst (acc ++ [y]))) else Nx H3) := by
 refine ⟨fun i m H => m = xs.length - i ∧ i ≤ xs.length ∧ Pv i H, ⟨xs.length, by simp, Nat.zero_le _, h0⟩, ?_⟩
 rintro i m H ⟨rfl, hi, p⟩
 have q := hl i H hi p
 by_cases hlt : i < xs.length
 ·refine .inr ⟨⟨xs, xs[i], q, by simp [hlt]⟩, Pv (i + 1), fun H' p' => ⟨xs.length - (i + 1), by omega, rfl, hlt, p'⟩, fun x H' y => ?_⟩
  obtain ⟨e, y⟩ := y
  subst e
  exact hs i x _ (y xs q) p
 ·have e : i = xs.length := by omega
  subst e
  exact .inl ⟨⟨xs, q, Nat.le_refl _⟩, hd H p⟩
theorem lc_tup {K : W.Frag} {a : Addr} {xs : List V} {g : TG} {tt : TT} {te : TE} {vs : List Nat} {σ : St} {H1 : Hp} {D : Addr} {Qd : Hp → Prop} (Pv : Nat → Hp → Prop) (h0 : Pv 0 (upd H1 D (.lst []))) (hl : ∀ i H, i ≤ xs.length → Pv i H → SqT K H a xs)
  (hs : ∀ i x H, xs[i]? = some x → Pv i H → g x (wipe σ vs) H fun σ2 H2 => wipe σ2 vs = wipe σ vs ∧ tt σ2 H2 fun b H3 =>
   if b = true then te σ2 H3 fun y H4 => ∃ acc, H4 D = some (.lst acc) ∧ acc.length < sizeLine ∧ Pv (i + 1) (upd H4 D (.lst (acc ++ [y]))) else Pv (i + 1) H3) (hd : ∀ H, Pv xs.length H → Qd H) :
  ∃ W : Nat → Nat → Hp → Prop, (∃ m, W 0 m (upd H1 D (.lst []))) ∧ ∀ i m H, W i m H →
   ((Itt K a).stop i H ∧ Qd H) ∨ ((Itt K a).go i H ∧ ∃ Nx : Hp → Prop, (∀ H', Nx H' → ∃ m', m' < m ∧ W (i + 1) m' H') ∧ ∀ x H', (Itt K a).yld i H x H' → g x (wipe σ vs) H' fun σ2 H2 => wipe σ2 vs = wipe σ vs ∧ tt σ2 H2 fun b H3 =>
    if b = true then te σ2 H3 fun y H4 => ∃ acc, H4 D = some (.lst acc) ∧ acc.length < sizeLine ∧ Nx (upd H4 D (.lst (acc ++ [y]))) else Nx H3) := by
 refine ⟨fun i m H => m = xs.length - i ∧ i ≤ xs.length ∧ Pv i H, ⟨xs.length, by simp, Nat.zero_le _, h0⟩, ?_⟩
 rintro i m H ⟨rfl, hi, p⟩
 have q := hl i H hi p
 by_cases hlt : i < xs.length
 ·refine .inr ⟨⟨xs, xs[i], q, by simp [hlt]⟩, Pv (i + 1), fun H' p' => ⟨xs.length - (i + 1), by omega, rfl, hlt, p'⟩, fun x H' y => ?_⟩
  obtain ⟨e, y⟩ := y
  subst e
  exact hs i x _ (y xs q) p
 ·have e : i = xs.length := by omega
  subst e
  exact .inl ⟨⟨xs, q, Nat.le_refl _⟩, hd H p⟩
def blkC (N : List Str) (sc scope : Scope) (own : List (Str × Nat)) : Bool :=
 (match scope.kind with | .function => true | _ => false) && (scope.names.all fun y => decide (scope.names.lookup y.1 = some y.2)) && (own.all fun p => decide (N[p.2]? = some p.1)) &&
  (scope.names.all fun y => match y.2 with
   | .free => (match sc.names.lookup y.1 with | some .cell => true | some .free => true | _ => false)
   | .local => decide (y.1 ∈ own.map (·.1)) || decide (y.1 ∉ N)
   | .cell => decide (y.1 ∈ own.map (·.1)) || decide (y.1 ∉ N)
   | _ => true)
theorem blkOk_by {N : List Str} {sc scope : Scope} {own : List (Str × Nat)} (h : blkC N sc scope own = true) : BlkOk N sc scope own := by
 unfold blkC at h
 simp only [Bool.and_eq_true, List.all_eq_true, decide_eq_true_eq] at h
 obtain ⟨⟨⟨h1, h2⟩, h3⟩, h4⟩ := h
 refine ⟨?_, h2, h3, fun y hy e => ?_, fun y hy e => ?_⟩
 ·split at h1
  ·assumption
  ·cases h1
 ·have q := h4 y hy
  simp only [e] at q
  split at q <;> first | exact .inl (by assumption) | exact .inr (by assumption) | cases q
 ·have q := h4 y hy
  rcases e with e | e <;> (simp only [e, Bool.or_eq_true, decide_eq_true_eq] at q; exact q)
end L2
namespace L2
open PySem PySem.Spec PyProof.Rows
section
variable {prog : Program} {w : World} {A : Around} {R : Result → Shared → Prop} {s : Shared} {elt t0 i0 t1 i1 : Expr} {ifs0 ifs1 : List Expr} {scope : Scope} {pos : Pos} {it acc : Value} {env : Env}
end
section
variable {X : Cx}
end
end L2
namespace L2
open PySem PySem.Spec PyProof.Rows
section
variable {κ : Type} [DecidableEq κ]
def valV (kvs : List (κ × V)) (k : κ) : Option V := (kvs.find? fun kv => decide (kv.1 = k)).map (·.2)
def putK (kvs : List (κ × V)) (k : κ) (v : V) : List (κ × V) :=
 if (kvs.any fun kv => decide (kv.1 = k)) = true then kvs.map (fun kv => if kv.1 = k then (kv.1, v) else kv) else kvs ++ [(k, v)]
def dropK (kvs : List (κ × V)) (k : κ) : List (κ × V) := kvs.filter fun kv => decide (kv.1 ≠ k)
theorem valV_pos {p : κ × V} {r : List (κ × V)} {k : κ} (e : p.1 = k) : valV (p :: r) k = some p.2 := by simp [valV, List.find?_cons, e]
theorem valV_neg {p : κ × V} {r : List (κ × V)} {k : κ} (e : ¬ p.1 = k) : valV (p :: r) k = valV r k := by simp [valV, List.find?_cons, e]
theorem valV_any (k : κ) : ∀ kvs : List (κ × V), (kvs.any fun kv => decide (kv.1 = k)) = (valV kvs k).isSome
 | [] => rfl
 | p :: r => by
  rw [List.any_cons]
  by_cases e : p.1 = k
  ·simp only [valV_pos e, decide_eq_true e, Bool.true_or, Option.isSome_some]
  ·rw [valV_neg e, decide_eq_false e, Bool.false_or]; exact valV_any k r
theorem length_putK (kvs : List (κ × V)) (k : κ) (v : V) : (putK kvs k v).length ≤ kvs.length + 1 := by
 unfold putK
 split
 ·rw [List.length_map]; omega
 ·rw [List.length_append, List.length_cons, List.length_nil]; omega
theorem putK_new {kvs : List (κ × V)} {k : κ} (v : V) (h : valV kvs k = none) : putK kvs k v = kvs ++ [(k, v)] := by
 unfold putK
 rw [valV_any, h]
 exact if_neg (by decide)
theorem RelO.isSome_eq {o : Option V} {u : Option Value} (r : RelO o u) : o.isSome = u.isSome := by
 cases o with
 | none => cases u with
  | none => rfl
  | some _ => exact (show False from r).elim
 | some _ => cases u with
  | none => exact (show False from r).elim
  | some _ => rfl
theorem KV.val {kvs : List (κ × V)} {vs : List (κ × Value)} (r : KV kvs vs) (k : κ) : RelO (valV kvs k) (valueAt vs k) := by
 unfold KV at r
 induction r with
 | nil => exact True.intro
 | @cons p q ps qs h t ih =>
  obtain ⟨h1, h2⟩ := h
  by_cases e : p.1 = k
  ·have e' : q.1 = k := h1.symm.trans e
   have b : valueAt (q :: qs) k = some q.2 := by simp [valueAt, List.find?_cons, e']
   rw [valV_pos e, b]; exact h2
  ·have e' : ¬ q.1 = k := fun z => e (h1.trans z)
   have b : valueAt (q :: qs) k = valueAt qs k := by simp [valueAt, List.find?_cons, e']
   rw [valV_neg e, b]; exact ih
theorem KV.any {kvs : List (κ × V)} {vs : List (κ × Value)} (r : KV kvs vs) (k : κ) : (kvs.any fun kv => decide (kv.1 = k)) = vs.any fun kv => decide (kv.1 = k) := by
 unfold KV at r
 induction r with
 | nil => rfl
 | cons h t ih => rw [List.any_cons, List.any_cons, ih, h.1]
theorem KV.repl {kvs : List (κ × V)} {vs : List (κ × Value)} (r : KV kvs vs) (k : κ) {y : V} {u : Value} (ry : RelV y u) :
  KV (kvs.map fun kv => if kv.1 = k then (kv.1, y) else kv) (vs.map fun kv => if kv.1 = k then (kv.1, u) else kv) := by
 unfold KV at r ⊢
 induction r with
 | nil => exact .nil
 | @cons p q ps qs h t ih =>
  rw [List.map_cons, List.map_cons]
  refine .cons ?_ ih
  obtain ⟨h1, h2⟩ := h
  by_cases e : p.1 = k
  ·rw [if_pos e, if_pos (h1.symm.trans e)]; exact ⟨h1, ry⟩
  ·rw [if_neg e, if_neg (fun z => e (h1.trans z))]; exact ⟨h1, h2⟩
theorem KV.put {kvs : List (κ × V)} {vs : List (κ × Value)} (r : KV kvs vs) (k : κ) {y : V} {u : Value} (ry : RelV y u) : KV (putK kvs k y) (stored vs k u) := by
 unfold putK stored
 rw [r.any k]
 by_cases e : (vs.any fun kv => decide (kv.1 = k)) = true
 ·rw [if_pos e, if_pos e]; exact r.repl k ry
 ·rw [if_neg e, if_neg e]; exact Paired.snoc r ⟨rfl, ry⟩
theorem KV.drop {kvs : List (κ × V)} {vs : List (κ × Value)} (r : KV kvs vs) (k : κ) : KV (dropK kvs k) (without vs k) := by
 unfold KV at r ⊢
 unfold dropK without
 induction r with
 | nil => exact .nil
 | @cons p q ps qs h t ih =>
  obtain ⟨h1, h2⟩ := h
  rw [List.filter_cons, List.filter_cons]
  by_cases e : p.1 = k
  ·have a : ¬ decide (p.1 ≠ k) = true := by simp [e]
   have b : ¬ decide (q.1 ≠ k) = true := by simp [h1.symm.trans e]
   rw [if_neg a, if_neg b]; exact ih
  ·have e' : ¬ q.1 = k := fun z => e (h1.trans z)
   have a : decide (p.1 ≠ k) = true := by simp [e]
   have b : decide (q.1 ≠ k) = true := by simp [e']
   rw [if_pos a, if_pos b]; exact .cons ⟨h1, h2⟩ ih
theorem KV.keys {kvs : List (κ × V)} {vs : List (κ × Value)} (r : KV kvs vs) : kvs.map (·.1) = vs.map (·.1) := by
 unfold KV at r
 induction r with
 | nil => rfl
 | cons h t ih => rw [List.map_cons, List.map_cons, ih, h.1]
theorem KV.length {kvs : List (κ × V)} {vs : List (κ × Value)} (r : KV kvs vs) : kvs.length = vs.length := Paired.length r
theorem dropK_le (kvs : List (κ × V)) (k : κ) : (dropK kvs k).length ≤ kvs.length := List.length_filter_le _ _
end
theorem kV_is {P : Program} {w : World} {k : Key} {u : Value} (r : RelV (kV k) u) : (mixKind P w).is k u = true := by
 cases k with
 | inl i => obtain ⟨t, e⟩ := (show ∃ t, u = Value.int i t from r); subst e; exact mixKind_int P w i t
 | inr x => obtain ⟨t, e⟩ := (show ∃ t, u = Value.str x t from r); subst e; exact mixKind_str P w x t
theorem items_are {P : Program} {w : World} : ∀ {ks : List Key} {us : List Value}, Vals (ks.map kV) us → ItemsAre (mixKind P w) ks us
 | [], _, r => by rw [List.map_nil] at r; cases r; exact .nil
 | k :: ks, _, r => by
  rw [List.map_cons] at r
  cases r with
  | cons h t => exact .cons (kV_is h) (items_are t)
abbrev KT (H : Hp) : List (List Key × V) → List (List Key × Addr × Value) → Prop := Paired fun p q => p.1 = q.1 ∧ H q.2.1 = some (.tup (p.1.map kV)) ∧ RelV p.2 q.2.2
theorem KT.val {H : Hp} {kvs : List (List Key × V)} {xs : List (List Key × Addr × Value)} (r : KT H kvs xs) (k : List Key) : RelO (valV kvs k) ((atKey xs k).map (·.2)) := by
 induction r with
 | nil => exact True.intro
 | @cons p q ps qs h t ih =>
  obtain ⟨h1, _, h2⟩ := h
  by_cases e : p.1 = k
  ·have e' : q.1 = k := h1.symm.trans e
   have b : atKey (q :: qs) k = some q.2 := by simp [atKey, List.find?_cons, e']
   rw [valV_pos e, b]; exact h2
  ·have e' : ¬ q.1 = k := fun z => e (h1.trans z)
   have b : atKey (q :: qs) k = atKey qs k := by simp [atKey, List.find?_cons, e']
   rw [valV_neg e, b]; exact ih
theorem KT.repl {H : Hp} {kvs : List (List Key × V)} {xs : List (List Key × Addr × Value)} (r : KT H kvs xs) (k : List Key) {y : V} {u : Value} (ry : RelV y u) :
  KT H (kvs.map fun kv => if kv.1 = k then (kv.1, y) else kv) (xs.map (putAt k u)) := by
 induction r with
 | nil => exact .nil
 | @cons p q ps qs h t ih =>
  rw [List.map_cons, List.map_cons]
  refine .cons ?_ ih
  obtain ⟨h1, h2, h3⟩ := h
  unfold putAt
  by_cases e : p.1 = k
  ·rw [if_pos e, if_pos (h1.symm.trans e)]; exact ⟨h1, h2, ry⟩
  ·rw [if_neg e, if_neg (fun z => e (h1.trans z))]; exact ⟨h1, h2, h3⟩
theorem KT.put {H : Hp} {kvs : List (List Key × V)} {xs : List (List Key × Addr × Value)} (r : KT H kvs xs) (k : List Key) {b : Addr} {y : V} {u : Value} (hb : H b = some (.tup (k.map kV))) (ry : RelV y u) :
  KT H (putK kvs k y) (storedH xs k b u) := by
 have e : (kvs.any fun kv => decide (kv.1 = k)) = (atKey xs k).isSome := by
  rw [valV_any, (r.val k).isSome_eq, Option.isSome_map]
 unfold putK storedH
 rw [e]
 by_cases q : (atKey xs k).isSome = true
 ·rw [if_pos q, if_pos q]; exact r.repl k ry
 ·rw [if_neg q, if_neg q]; exact Paired.snoc r ⟨rfl, hb, ry⟩
theorem KT.keeps {H H' : Hp} {kvs : List (List Key × V)} {xs : List (List Key × Addr × Value)} (r : KT H kvs xs) (ht : ∀ b ys, H b = some (.tup ys) → H' b = some (.tup ys)) : KT H' kvs xs :=
 Paired.mapP r fun _ _ z => ⟨z.1, ht _ _ z.2.1, z.2.2⟩
section
variable {P : Program} {w : World} {H : Hp} {h : Heap} {a : Addr}
theorem rd_of {u : HO} (ok : HOk P w H h) (e : Rd H a u) : ObjOk P w H h a u := e.ok ok
theorem dk_rd {kvs : List (Key × V)} (ok : HOk P w H h) (e : Rd H a (.dK kvs)) : kvs.length ≤ sizeLine ∧ (a == sysModules) = false ∧ ∃ vs, KV kvs vs ∧ h.DictOf (mixKind P w) a vs :=
 show ObjOk P w H h a (.dK kvs) from rd_of ok e
theorem dk_of {kvs : List (Key × V)} (ok : HOk P w H h) (e : H a = some (.dK kvs)) : kvs.length ≤ sizeLine ∧ (a == sysModules) = false ∧ ∃ vs, KV kvs vs ∧ h.DictOf (mixKind P w) a vs := dk_rd ok (.inl e)
theorem key_of {ks : List Key} (ok : HOk P w H h) (e : H a = some (.tup (ks.map kV))) : (tupleKind (mixKind P w)).is h ks a := by
 obtain ⟨_, its, r, o, h1, h2, n, h3⟩ := (show ObjOk P w H h a (.tup (ks.map kV)) from ok a _ e)
 exact ⟨o, its.toArray, n, h1, h2, h3, by simpa using items_are r⟩
theorem dt_rd {kvs : List (List Key × V)} (ok : HOk P w H h) (e : Rd H a (.dT kvs)) : kvs.length ≤ sizeLine ∧ (a == sysModules) = false ∧
  ∃ xs, KT H kvs xs ∧ h.DictOfH (tupleKind (mixKind P w)) a xs := by
 obtain ⟨z, y, xs, r, o, es, ep, h1, h2, h3, h4, h5⟩ := (show ObjOk P w H h a (.dT kvs) from rd_of ok e)
 refine ⟨z, y, xs, r, o, es, ep, h1, h2, h3, h4, fun x hx => ?_, h5⟩
 have all : ∀ {l : List (List Key × V)} {m : List (List Key × Addr × Value)}, KT H l m → ∀ x ∈ m, (tupleKind (mixKind P w)).is h x.1 x.2.1 := by
  intro l m q
  induction q with
  | nil => intro x hx; exact nomatch hx
  | @cons p q ps qs hq t ih =>
   intro x hx
   rcases List.mem_cons.mp hx with e | hx
   ·subst e
    exact key_of ok (by rw [← hq.1]; exact hq.2.1)
   ·exact ih x hx
 exact all r x hx
theorem dt_of {kvs : List (List Key × V)} (ok : HOk P w H h) (e : H a = some (.dT kvs)) : kvs.length ≤ sizeLine ∧ (a == sysModules) = false ∧
  ∃ xs, KT H kvs xs ∧ h.DictOfH (tupleKind (mixKind P w)) a xs := dt_rd ok (.inl e)
end
def DGet (H : Hp) (a : Addr) (y : V) (r : Option V) : Prop :=
 (∃ kvs k, Rd H a (.dK kvs) ∧ y = kV k ∧ r = valV kvs k) ∨ ∃ kvs k b, Rd H a (.dT kvs) ∧ y = .ref b ∧ H b = some (.tup (k.map kV)) ∧ r = valV kvs k
def DPut (H : Hp) (a : Addr) (y v : V) (H' : Hp) : Prop :=
 (∃ kvs k, H a = some (.dK kvs) ∧ y = kV k ∧ kvs.length < sizeLine ∧ H' = upd H a (.dK (putK kvs k v))) ∨
 ∃ kvs k b, H a = some (.dT kvs) ∧ y = .ref b ∧ H b = some (.tup (k.map kV)) ∧ kvs.length < sizeLine ∧ H' = upd H a (.dT (putK kvs k v))
theorem DGet.t {H : Hp} {a b : Addr} {kvs : List (List Key × V)} {k : List Key} (e : H a = some (.dT kvs)) (eb : H b = some (.tup (k.map kV))) : DGet H a (.ref b) (valV kvs k) := .inr ⟨kvs, k, b, .inl e, rfl, eb, rfl⟩
theorem DPut.k {H : Hp} {a : Addr} {kvs : List (Key × V)} {k : Key} {v : V} (e : H a = some (.dK kvs)) (hl : kvs.length < sizeLine) : DPut H a (kV k) v (upd H a (.dK (putK kvs k v))) := .inl ⟨kvs, k, e, rfl, hl, rfl⟩
theorem DPut.t {H : Hp} {a b : Addr} {kvs : List (List Key × V)} {k : List Key} {v : V} (e : H a = some (.dT kvs)) (eb : H b = some (.tup (k.map kV))) (hl : kvs.length < sizeLine) :
  DPut H a (.ref b) v (upd H a (.dT (putK kvs k v))) := .inr ⟨kvs, k, b, e, rfl, eb, hl, rfl⟩
section
variable {X : Cx} {pins : List (Addr × Obj)} {σ : St} {H : Hp} {s : Shared} {a : Addr} {y v : V} {u r : Value} {o : Option V} {A : Around} {E : Value → Shared → Prop}
theorem Inv.big (I : Inv X pins σ H s) : sysModules < s.heap.objs.size := by
 have h : mainGlobals < s.heap.objs.size := (I.mod.glob.keeps I.bk).lt
 exact Nat.lt_trans (by decide) h
theorem d_getItem {Q : Value → Shared → Prop} (hu : A.units + 1 < cLine) (I : Inv X pins σ H s) (g : DGet H a y (some v)) (ry : RelV y u) (h : ∀ w' s', Inv X pins σ H s' → RelV v w' → Q w' s') :
  wpAny (model X.prog X.w) A (getItem (.ref a) u) Q E s := by
 rcases g with ⟨kvs, k, e, ey, l⟩ | ⟨kvs, k, b, e, ey, eb, l⟩
 ·subst ey
  obtain ⟨z, hd, vs, rel, dd⟩ := dk_rd I.hok e
  obtain ⟨w', hw, rw'⟩ := RelO.some_of (v := v) (o := valueAt vs k) (by rw [l]; exact rel.val k)
  exact wpAny_getItem_of (kV_is ry) dd.mapOf hw (h w' _ (I.tok _) rw')
 ·subst ey
  cases (show u = Value.ref b from ry)
  obtain ⟨z, hd, xs, rel, dd⟩ := dt_rd I.hok e
  obtain ⟨w', hw, rw'⟩ := RelO.some_of (v := v) (o := (atKey xs k).map (·.2)) (by rw [l]; exact rel.val k)
  obtain ⟨p, hp, hp2⟩ := Option.map_eq_some_iff.mp hw
  refine wpAny_getItem_heap (tupleKind_room_in1 hu) (key_of I.hok eb) dd hp ?_
  rw [hp2]
  exact h w' _ (I.tok _) rw'
theorem d_in {Q : Value → Shared → Prop} (hu : A.units + 1 < cLine) (I : Inv X pins σ H s) (g : DGet H a y o) (ry : RelV y u) (h : ∀ s', Inv X pins σ H s' → Q (.bool o.isSome) s') :
  wpAny (model X.prog X.w) A (compareOp .In u (.ref a)) Q E s := by
 rcases g with ⟨kvs, k, e, ey, l⟩ | ⟨kvs, k, b, e, ey, eb, l⟩
 ·subst ey
  obtain ⟨z, hd, vs, rel, dd⟩ := dk_rd I.hok e
  refine wpAny_in_of (kV_is ry) hd dd.mapOf ?_
  rw [← (rel.val k).isSome_eq, ← l]
  exact h _ (I.tok _)
 ·subst ey
  cases (show u = Value.ref b from ry)
  obtain ⟨z, hd, xs, rel, dd⟩ := dt_rd I.hok e
  refine wpAny_in_heap (tupleKind_room_in1 hu) (key_of I.hok eb) hd dd ?_
  have q := (rel.val k).isSome_eq
  rw [Option.isSome_map] at q
  rw [← q, ← l]
  exact h _ (I.tok _)
theorem d_notIn {Q : Value → Shared → Prop} (hu : A.units + 1 < cLine) (I : Inv X pins σ H s) (g : DGet H a y o) (ry : RelV y u) (h : ∀ s', Inv X pins σ H s' → Q (.bool (!o.isSome)) s') :
  wpAny (model X.prog X.w) A (compareOp .NotIn u (.ref a)) Q E s := by
 rcases g with ⟨kvs, k, e, ey, l⟩ | ⟨kvs, k, b, e, ey, eb, l⟩
 ·subst ey
  obtain ⟨z, hd, vs, rel, dd⟩ := dk_rd I.hok e
  refine wpAny_notIn_of (kV_is ry) hd dd.mapOf ?_
  rw [← (rel.val k).isSome_eq, ← l]
  exact h _ (I.tok _)
 ·subst ey
  cases (show u = Value.ref b from ry)
  obtain ⟨z, hd, xs, rel, dd⟩ := dt_rd I.hok e
  refine wpAny_notIn_heap (tupleKind_room_in1 hu) (key_of I.hok eb) hd dd ?_
  have q := (rel.val k).isSome_eq
  rw [Option.isSome_map] at q
  rw [← q, ← l]
  exact h _ (I.tok _)
theorem d_write {h' : Heap} {t' : Nat} {ob : HO} (I : Inv X pins σ H s) (mu : Mut (H a)) (hs : Heap.SameBut a s.heap h') (he : ∃ q, h'.get? a = some q) (new : ObjOk X.prog X.w (upd H a ob) h' a ob) :
  Inv X pins σ (upd H a ob) { s with heap := h', toks := t' } :=
 I.write (x := a) (e := a) mu (.inl rfl) (fun b q hb z => (hs.2 b hb).trans z) he new
theorem dk_new {P : Program} {w : World} {H' : Hp} {h' : Heap} {kvs : List (Key × V)} {vs : List (Key × Value)} (z : kvs.length ≤ sizeLine) (hd : (a == sysModules) = false) (rel : KV kvs vs) (dd : h'.DictOf (mixKind P w) a vs) :
  ObjOk P w H' h' a (.dK kvs) := ⟨z, hd, vs, rel, dd⟩
theorem d_setItem {H' : Hp} {Q : Unit → Shared → Prop} (hu : A.units + 1 < cLine) (I : Inv X pins σ H s) (g : DPut H a y v H') (ry : RelV y u) (rv : RelV v r) (h : ∀ s', Inv X pins σ H' s' → Q () s') :
  wpAny (model X.prog X.w) A (setItem (.ref a) u r) Q E s := by
 rcases g with ⟨kvs, k, e, ey, l, eH⟩ | ⟨kvs, k, b, e, ey, eb, l, eH⟩
 ·subst ey eH
  obtain ⟨z, hd, vs, rel, dd⟩ := dk_of I.hok e
  have hz : vs.length ≤ sizeLine := by rw [← rel.length]; exact z
  have hl : (putK kvs k v).length ≤ sizeLine := by have := length_putK kvs k v; omega
  refine wpAny_setItem_pairs (hsz := hz) (kV_is ry) dd fun h' dd' hs => h _ ?_
  have he : ∃ q, h'.get? a = some q := let ⟨q, _, _, hq, _⟩ := dd'; ⟨q, hq⟩
  exact d_write I (by rw [e]; exact True.intro) hs he (dk_new hl hd (rel.put k rv) dd')
 ·subst ey eH
  cases (show u = Value.ref b from ry)
  obtain ⟨z, hd, xs, rel, dd⟩ := dt_of I.hok e
  have hz : xs.length ≤ sizeLine := by rw [← Paired.length rel]; exact z
  have hl : (putK kvs k v).length ≤ sizeLine := by have := length_putK kvs k v; omega
  refine wpAny_setItem_heap (hsz := hz) (tupleKind_room_in1 hu) (key_of I.hok eb) dd fun h' dd' hs => h _ ?_
  obtain ⟨q, es, ep, hq, h2, h3, h4, _, h5⟩ := dd'
  refine d_write I (by rw [e]; exact True.intro) hs ⟨q, hq⟩ ⟨hl, hd, _, (rel.put k eb rv).keeps fun c ys ec => ?_, q, es, ep, hq, h2, h3, h4, h5⟩
  rw [uN (ne_of ec e (fun z => nomatch z))]
  exact ec
end
section
variable {X : Cx} {pins : List (Addr × Obj)} {σ : St} {H : Hp} {s : Shared} {a : Addr} {kvs : List (Key × V)} {k : Key} {u : Value} {A : Around} {E : Value → Shared → Prop}
theorem d_pop {v : V} {more : List Value} {Q : Value → Shared → Prop} (I : Inv X pins σ H s) (e : H a = some (.dK kvs)) (ry : RelV (kV k) u) (l : valV kvs k = some v) (hm : more = [] ∨ ∃ x, more = [x])
  (h : ∀ w' s', Inv X pins σ (upd H a (.dK (dropK kvs k))) s' → RelV v w' → Q w' s') : wpAny (model X.prog X.w) A (call (.builtin "dict.pop") (.ref a :: u :: more)) Q E s := by
 obtain ⟨z, hd, vs, rel, dd⟩ := dk_of I.hok e
 obtain ⟨w', hw, rw'⟩ := RelO.some_of (v := v) (o := valueAt vs k) (by rw [← l]; exact rel.val k)
 have hp : (keyPart u).isSome = true := by
  cases k with
  | inl i => obtain ⟨t, q⟩ := (show ∃ t, u = Value.int i t from ry); subst q; rfl
  | inr x => obtain ⟨t, q⟩ := (show ∃ t, u = Value.str x t from ry); subst q; rfl
 have ha : argsOk "dict.pop" ⟨.ref a :: u :: more, []⟩ := by
  rcases hm with q | ⟨x, q⟩
  ·subst q; exact PySem.F.args_dict_pop_2 _ _
  ·subst q; exact PySem.F.args_dict_pop_3 _ _ _
 refine call_meetsIn PySem.F.slot_dict_pop dd.typeIs PySem.F.entry_dict_pop ha (meets_dict_pop_there (mixKind X.prog X.w) a (kV_is ry) more hm hp)
  ⟨vs, w', dd, by rw [← rel.length]; exact z, hw, fun h' dd' hs => h w' _ ?_ rw'⟩
 have he : ∃ q, h'.get? a = some q := let ⟨q, _, _, hq, _⟩ := dd'; ⟨q, hq⟩
 exact d_write I (by rw [e]; exact True.intro) hs he (dk_new (Nat.le_trans (dropK_le kvs k) z) hd (rel.drop k) dd')
theorem d_len {Q : Value → Shared → Prop} (I : Inv X pins σ H s) (e : Rd H a (.dK kvs)) (h : ∀ t s', Inv X pins σ H s' → Q (.int kvs.length t) s') : wpAny (model X.prog X.w) A (call (.builtin "len") [.ref a]) Q E s := by
 obtain ⟨z, hd, vs, rel, dd⟩ := dk_rd I.hok e
 refine call_len_dict hd dd (by rw [← rel.length]; rw [sizeLine_eq] at z; omega) ?_
 rw [← rel.length]
 exact h _ _ (I.tok _)
end
def NoSl (i : Expr) : Prop := ∀ ov iv, subscripted i false ov iv = operate [ov, iv] (getItem ov iv)
theorem subD_of {prog : Program} {w : World} {A : Around} {E : Value → Shared → Prop} {s : Shared} {env : Env} {value slice : Expr} {pos : Pos} {T id : String} {Q : Value → Shared → Prop}
  (hl : typeLookup (.type T) "__getitem__" = pure (some (.builtin id))) (hs : NoSl slice)
  (h : wpAny (model prog w) A (eval value env) (fun o s₁ => wpAny (model prog w) A (eval slice env) (fun i s₂ => s₂.TypeIs o T ∧ wpAny (model prog w) A (getItem o i) Q E s₂) E s₁) E s) :
  wpAny (model prog w) A (eval (.Subscript value slice pos) env) Q E s := by
 refine Subscript_ (wpAny_mono h (fun o s₁ h₁ => wpAny_mono h₁ (fun i s₂ h₂ => ?_) fun _ _ x => x) fun _ _ x => x)
 obtain ⟨hT, h₂⟩ := h₂
 unfold subscriptTail
 refine wpAny_bind ?_
 rw [getitemInPython_of_ne hT.not_modules]
 refine wpAny_bind (wpAny_specialOf hT hl ?_)
 have fin : wpAny (model prog w) A (subscripted slice false o i) (fun r s₃ => wpAny (model prog w) A (letTemporaryGo value o r >>= fun _ => pure r) Q E s₃) E s₂ := by
  rw [hs o i]
  exact wpAny_operating (wpAny_mono h₂ (fun r s₃ h₃ => wpAny_bind (wpAny_letTemporaryGo (wpAny_pure h₃))) fun _ _ x => x)
 first
  | exact wpAny_pure (wpAny_bind fin)
  | exact wpAny_bind (wpAny_pure (wpAny_bind fin))
  | exact wpAny_bind fin
theorem dict_typeIs {X : Cx} {pins : List (Addr × Obj)} {σ : St} {H : Hp} {s : Shared} {a : Addr} {y : V} {o : Option V} (I : Inv X pins σ H s) (g : DGet H a y o) : s.TypeIs (.ref a) "dict" := by
 rcases g with ⟨kvs, k, e, _, _⟩ | ⟨kvs, k, b, e, _, _, _⟩
 ·obtain ⟨_, _, vs, _, dd⟩ := dk_rd I.hok e
  exact dd.typeIs
 ·obtain ⟨_, _, xs, _, dd⟩ := dt_rd I.hok e
  exact dd.typeIs
def tDGet (td ty : TE) : TE := fun σ H Q => td σ H fun x H1 => ty σ H1 fun y H2 => ∃ a v, x = .ref a ∧ DGet H2 a y (some v) ∧ Q v H2
def tDIn (ty td : TE) : TE := fun σ H Q => ty σ H fun y H1 => td σ H1 fun x H2 => ∃ a o, x = .ref a ∧ DGet H2 a y o ∧ Q (.bl o.isSome) H2
def tDNotIn (ty td : TE) : TE := fun σ H Q => ty σ H fun y H1 => td σ H1 fun x H2 => ∃ a o, x = .ref a ∧ DGet H2 a y o ∧ Q (.bl (!o.isSome)) H2
def sDPut (td ty tv : TE) : TS := fun D σ H => tv σ H fun v H1 => td σ H1 fun x H2 => ty σ H2 fun y H3 => ∃ a H4, x = .ref a ∧ DPut H3 a y v H4 ∧ D.nx σ H4
section
variable {X : Cx} {o i e value : Expr} {pos pos' tpos : Pos} {td ty tv : TE}
theorem pe_dget (hu : X.A.units + 1 < cLine) (ho : PE X o td) (hi : PE X i ty) (hs : NoSl i) : PE X (.Subscript o i pos) (tDGet td ty) := by
 intro pins s σ H Q I h
 refine subD_of PySem.F.slot_dict_getitem.lookup hs (thn (ho pins s σ H _ I h) fun u s1 ⟨x, H1, I1, rx, q1⟩ => thn (hi pins s1 σ H1 _ I1 q1) fun iv s2 ⟨y, H2, I2, ry, a, v, ex, g, q2⟩ => ?_)
 subst ex
 obtain rfl : u = Value.ref a := rx
 exact ⟨dict_typeIs I2 g, d_getItem hu I2 g ry fun w' s3 I3 rw' => ⟨v, H2, I3, rw', q2⟩⟩
theorem pc_din (hu : X.A.units + 1 < cLine) (hi : PE X i ty) (ho : PE X o td) : PC X .In i o (tDIn ty td) := by
 intro pins s σ H Q I h
 refine thn (hi pins s σ H _ I h) fun iv s1 ⟨y, H1, I1, ry, q1⟩ => thn (ho pins s1 σ H1 _ I1 q1) fun u s2 ⟨x, H2, I2, rx, a, ov, ex, g, q2⟩ => ?_
 subst ex
 obtain rfl : u = Value.ref a := rx
 exact d_in hu I2 g ry fun s3 I3 => ⟨.bl ov.isSome, H2, I3, rfl, q2⟩
theorem pc_dnotin (hu : X.A.units + 1 < cLine) (hi : PE X i ty) (ho : PE X o td) : PC X .NotIn i o (tDNotIn ty td) := by
 intro pins s σ H Q I h
 refine thn (hi pins s σ H _ I h) fun iv s1 ⟨y, H1, I1, ry, q1⟩ => thn (ho pins s1 σ H1 _ I1 q1) fun u s2 ⟨x, H2, I2, rx, a, ov, ex, g, q2⟩ => ?_
 subst ex
 obtain rfl : u = Value.ref a := rx
 exact d_notIn hu I2 g ry fun s3 I3 => ⟨.bl (!ov.isSome), H2, I3, rfl, q2⟩
theorem ps_dput (hu : X.A.units + 1 < cLine) (ho : PE X o td) (hi : PE X i ty) (hv : PE X value tv) (hs : swapsWith value (some (.Subscript o i pos')) pos.line X.env = pure false) :
  PS X (.Assign [.Subscript o i pos'] value pos) (sDPut td ty tv) := by
 intro pins s σ H D I h
 refine wpAny_Assign_Subscript (thn (hv pins s σ H _ I h) fun r s1 ⟨v, H1, I1, rv, q1⟩ => thn (ho pins s1 σ H1 _ I1 q1) fun u s2 ⟨x, H2, I2, rx, q2⟩ => thn (hi pins s2 σ H2 _ I2 q2) fun iv s3 ⟨y, H3, I3, ry, a, H4, ex, g, q3⟩ => ?_) hs
 subst ex
 obtain rfl : u = Value.ref a := rx
 exact d_setItem hu I3 g ry rv fun s4 I4 => ⟨σ, H4, I4, q3⟩
end
theorem dk_empty {P : Program} {w : World} {H : Hp} (h : Heap) (hb : sysModules < h.objs.size) : ObjOk P w H (h.push { cls := .type "dict", data := .dict #[] }) h.objs.size (.dK []) :=
 ⟨Nat.zero_le _, beq_eq_false_iff_ne.mpr (Ne.symm (Nat.ne_of_lt hb)), [], .nil, Heap.DictOf.new h⟩
theorem dt_empty {P : Program} {w : World} {H : Hp} (h : Heap) (hb : sysModules < h.objs.size) : ObjOk P w H (h.push { cls := .type "dict", data := .dict #[] }) h.objs.size (.dT []) :=
 ⟨Nat.zero_le _, beq_eq_false_iff_ne.mpr (Ne.symm (Nat.ne_of_lt hb)), [], .nil, _, #[], 0, Heap.get?_push_size _ rfl, ⟨rfl, rfl, rfl⟩, rfl, rfl, List.nodup_nil⟩
def tDNewK : TE := fun _ H Q => ∀ p, H p = none → Q (.ref p) (upd H p (.dK []))
section
variable {X : Cx} {pos : Pos}
theorem pe_dnewK : PE X (.Dict [] [] pos) tDNewK := fun pins s σ H Q I h =>
 wpAny_Dict_empty ⟨.ref s.heap.objs.size, _, I.laid (a := s.heap.objs.size) (o := .dK []) (t' := s.toks) (fun _ _ q => Heap.get?_push_of_some _ q) (Nat.le_refl _) (dk_empty s.heap I.big), rfl, h _ (I.hok.fresh (Nat.le_refl _))⟩
end
structure M1 (X : Cx) (o : Expr) (m : Str) (apos : Pos) (e : Expr) (cpos : Pos) : Prop where
 base : attributeBase o m X.env (eval o X.env) = eval o X.env
 few : ((backTo cpos (starEach [e] X.env)).all (fun x => !x.1) && (backToKw cpos (keywordEach [] X.env)).all (fun x => x.1.isSome)
  && decide (([e] : List Expr).length + ([] : List Keyword).length + (if ([] : List Keyword).isEmpty then 0 else 1) < 30)) = true
 line : (apos.endLine == cpos.line) = true
 trees : backTo cpos (starEach [e] X.env) = [(false, eval e X.env)]
def IsD (H : Hp) (a : Addr) : Prop := (∃ kvs, Rd H a (.dK kvs)) ∨ ∃ kvs, Rd H a (.dT kvs)
theorem isD_at {X : Cx} {pins : List (Addr × Obj)} {σ : St} {H : Hp} {s : Shared} {a : Addr} (I : Inv X pins σ H s) (d : IsD H a) :
  s.TypeIs (.ref a) "dict" ∧ (∀ b, Value.ref a = .ref b → ∃ ob, s.heap.get? b = some ob ∧ ob.dict = none) ∧ (a == sysModules) = false := by
 rcases d with ⟨kvs, e⟩ | ⟨kvs, e⟩
 ·obtain ⟨_, hd, vs, _, dd⟩ := dk_rd I.hok e
  refine ⟨dd.typeIs, fun b q => ?_, hd⟩
  cases q
  obtain ⟨ob, _, _, h1, h2, _⟩ := dd
  exact ⟨ob, h1, h2.2.1⟩
 ·obtain ⟨_, hd, xs, _, dd⟩ := dt_rd I.hok e
  refine ⟨dd.typeIs, fun b q => ?_, hd⟩
  cases q
  obtain ⟨ob, _, _, h1, h2, _⟩ := dd
  exact ⟨ob, h1, h2.2.1⟩
section
variable {X : Cx} {pins : List (Addr × Obj)} {σ : St} {H : Hp} {s : Shared} {a : Addr} {y d : V} {u r : Value} {o : Option V} {A : Around} {E : Value → Shared → Prop}
end
def tDPop1 (td ty : TE) : TE := fun σ H Q => td σ H fun x H1 => ∃ a, x = .ref a ∧ IsD H1 a ∧ ty σ H1 fun y H2 => ∃ kvs k v, H2 a = some (.dK kvs) ∧ y = kV k ∧ valV kvs k = some v ∧ Q v (upd H2 a (.dK (dropK kvs k)))
section
variable {X : Cx} {o e f : Expr} {apos cpos : Pos} {td ty tx : TE}
theorem pe_dpop1 (ho : PE X o td) (he : PE X e ty) (m : M1 X o "pop" apos e cpos) : PE X (.Call (.Attribute o "pop" apos) [e] [] cpos) (tDPop1 td ty) := by
 intro pins s σ H Q I h
 refine wpAny_Call_method m.base m.few m.line PySem.F.plainAttrs_dict PySem.F.slot_dict_pop PySem.F.type_dict_pop (thn (ho pins s σ H _ I h) fun u s1 ⟨x, H1, I1, rx, a, ex, d, q1⟩ => ?_)
 subst ex
 obtain rfl : u = Value.ref a := rx
 obtain ⟨t1, t2, _⟩ := isD_at I1 d
 refine ⟨t1, t2, ?_⟩
 rw [m.trees]
 refine Calls.callWith_builtin rfl (Calls.evalArgs_plain (Calls.spliced_cons (thn (he pins s1 σ H1 _ I1 q1) fun iv s2 ⟨y, H2, I2, ry, kvs, k, v, ea, ey, l, q2⟩ => Calls.spliced_nil ?_)))
 subst ey
 exact d_pop I2 ea ry l (.inl rfl) fun w' s3 I3 rw' => ⟨v, _, I3, rw', q2⟩
end
section
variable {X : Cx} {pins : List (Addr × Obj)} {σ : St} {H : Hp} {s : Shared} {a : Addr} {kvs : List (Key × V)} {A : Around} {E : Value → Shared → Prop}
theorem d_copyOf {Q : Value → Shared → Prop} (I : Inv X pins σ H s) (e : Rd H a (.dK kvs)) (h : ∀ p s', H p = none → Inv X pins σ (upd H p (.dK kvs)) s' → Q (.ref p) s') : wpAny (model X.prog X.w) A (call (.type "dict") [.ref a]) Q E s := by
 obtain ⟨z, hd, vs, rel, dd⟩ := dk_rd I.hok e
 refine kt_call_dict hd dd (by rw [← rel.length]; exact z) fun h' dd' hs => ?_
 refine h _ _ (I.hok.fresh (Nat.le_refl _)) (I.laid (a := s.heap.objs.size) (o := .dK kvs) (t' := s.toks) (fun b q hq => ?_) (Nat.le_refl _) (dk_new z (beq_eq_false_iff_ne.mpr (Ne.symm (Nat.ne_of_lt I.big))) rel dd'))
 exact (hs.2 b (Nat.ne_of_lt (Heap.lt_size hq))).trans (Heap.get?_push_of_some _ hq)
end
section
variable {X : Cx} {pins : List (Addr × Obj)} {σ : St} {H : Hp} {s : Shared} {a : Addr} {y : V} {u : Value} {A : Around} {E : Value → Shared → Prop}
end
end L2
namespace L2
open PySem PySem.Spec PyProof.Rows
section
variable {prog : Program} {w : World} {A : Around} {E : Value → Shared → Prop}
end
section
variable {X : Cx}
theorem refs_at : ∀ {ps : List Addr} {us : List Value}, Vals (ps.map V.ref) us → us = ps.map Value.ref
 | [], us, r => by
  rw [List.map_nil] at r
  cases r
  rfl
 | p :: ps, us, r => by
  rw [List.map_cons] at r
  cases r with
  | cons h t =>
   cases h
   rw [List.map_cons, ← refs_at t]
end
end L2
namespace L2
open PySem PySem.Spec PyProof.Rows
section
variable {X : Cx} {pins : List (Addr × Obj)} {σ : St} {H : Hp} {s : Shared} {h' : Heap}
theorem Inv.lock {d : Addr} {u : HO} (I : Inv X pins σ H s) (h : H d = some u) (mu : Mut (some u)) : ∃ od, Inv X pins σ (upd H d (.frz od u)) s := by
 have x := I.hok d u h
 have ex : ∃ od, s.heap.get? d = some od := by
  cases u with
  | lst xs => obtain ⟨_, _, _, _, e⟩ := x; exact ⟨_, e⟩
  | dK kvs => obtain ⟨_, _, _, _, o, _, _, e, _⟩ := x; exact ⟨o, e⟩
  | dT kvs => obtain ⟨_, _, _, _, o, _, _, e, _⟩ := x; exact ⟨o, e⟩
  | set S n => obtain ⟨o, _, _, _, e, _⟩ := x; exact ⟨o, e⟩
  | ins C dx fs => obtain ⟨_, _, _, e, _⟩ := x; exact ⟨_, e⟩
  | ext φ => obtain ⟨_, ⟨_, e⟩, _⟩ := x; exact ⟨_, e⟩
  | _ => exact False.elim mu
 obtain ⟨od, e⟩ := ex
 have new : ObjOk X.prog X.w (upd H d (.frz od u)) s.heap d (.frz od u) := by
  refine ⟨e, x.stay (fun b v _ q => q) (fun b q => ?_) fun b xs q => ?_⟩
  ·rw [uN (fun z => by rw [z, h] at q; cases q; exact mu)]; exact q
  ·rw [uN (fun z => by rw [z, h] at q; cases q; exact mu)]; exact q
 exact ⟨od, I.write (x := d) (e := d) (t' := s.toks) (h' := s.heap) (by rw [h]; exact mu) (.inl rfl) (fun b v _ q => q) ⟨od, e⟩ new⟩
theorem Inv.nofrz {d : Addr} {u : HO} (I : Inv X pins σ H s) (h : H d = some u) (mu : Mut (some u)) : ∀ o' u', X.H_0 d ≠ some (.frz o' u') := fun o' u' e => by
 have q := I.base.frzs d o' u' e
 rw [h] at q
 cases q
 exact mu
theorem Inv.unlock {d : Addr} {od : Obj} {u : HO} (I : Inv X pins σ H s) (h : H d = some (.frz od u)) (hn : ∀ o' u', X.H_0 d ≠ some (.frz o' u')) : Inv X pins σ (upd H d u) s := by
 have neH : ∀ b o, H b = some o → (∀ o' u', o ≠ .frz o' u') → b ≠ d := fun b o e hne z => by
  rw [z, h] at e
  cases e
  exact hne _ _ rfl
 have neN : ∀ b, H b = none → b ≠ d := fun b e z => by rw [z, h] at e; cases e
 refine ⟨I.ok, I.os, I.bare, ⟨I.base.keep, I.base.slot, fun b o e n hx => ?_, I.base.there, fun b xs e => ?_, fun b o x e => ?_, fun b ps e => ?_⟩, I.loc, I.cell, ?_, fun x c e => ?_, fun p hp => ?_, fun b o e => ?_, I.len⟩
 ·rw [uN (neN b (I.base.free b o e n hx))]; exact I.base.free b o e n hx
 ·have q := I.base.tups b xs e
  rw [uN (neH b _ q (fun _ _ z => nomatch z))]; exact q
 ·have q := I.base.frzs b o x e
  rw [uN (fun z => by rw [z] at e; exact hn _ _ e)]; exact q
 ·obtain ⟨m, q⟩ := I.base.tbls b ps e
  exact ⟨m, by rw [uN (neH b _ q (fun _ _ z => nomatch z))]; exact q⟩
 ·rw [uN (neN _ I.free)]; exact I.free
 ·rw [uN (neN c (I.freeC x c e))]; exact I.freeC x c e
 ·obtain ⟨e, n, r⟩ := I.pin p hp
  exact ⟨e, by rw [uN (neN _ n)]; exact n, r⟩
 ·by_cases hb : b = d
  ·rw [hb, uS] at e
   cases e
   rw [hb]
   obtain ⟨_, x⟩ := I.hok d _ h
   exact x.stay (fun c v _ q => q) (fun c q => by rw [uN (neH c _ q (fun _ _ z => nomatch z))]; exact q) fun c xs q => by rw [uN (neH c _ q (fun _ _ z => nomatch z))]; exact q
  ·rw [uN hb] at e
   exact (I.hok b o e).stay (fun c v _ q => q) (fun c q => by rw [uN (neH c _ q (fun _ _ z => nomatch z))]; exact q) fun c xs q => by rw [uN (neH c _ q (fun _ _ z => nomatch z))]; exact q
end
def tLockE (t : TE) : TE := fun σ H Q => ∃ d u, H d = some u ∧ Mut (some u) ∧ ∀ od, t σ (upd H d (.frz od u)) fun v H' => H' d = some (.frz od u) ∧ Q v (upd H' d u)
section
variable {X : Cx}
theorem pe_lock {e : Expr} {t : TE} (h : PE X e t) : PE X e (tLockE t) := by
 intro pins s σ H Q I hw
 obtain ⟨d, u, hd, mu, hw⟩ := hw
 obtain ⟨od, I1⟩ := I.lock hd mu
 refine thn (h pins s σ _ _ I1 (hw od)) fun v s1 ⟨x, H1, I2, r, e2, q⟩ => ?_
 exact ⟨x, _, I2.unlock e2 (I.nofrz hd mu), r, q⟩
theorem pi_one {tg : Expr} {pins : List (Addr × Obj)} {σ : St} {H : Hp} {s : Shared} {R : It → Hp → Prop} {J : It} {tn : Nat → Heap → Prop} {tk : Nat} (I : Inv X pins σ H s) (o : Obj)
  (T : Turn X.prog X.w X.K tg J [s.heap.objs.size] s.heap.objs.size tn) (st : tn 0 (s.heap.push o)) (q : R J H) : PIE X pins σ tg R (.ref s.heap.objs.size) { s with heap := s.heap.push o, toks := tk } := by
 refine ⟨s.heap.objs.size, [s.heap.objs.size], tn, J, H, rfl, I.kept fun b ob e => Heap.get?_push_of_some _ e, T, st, fun b hb => ?_, q⟩
 have e : b = s.heap.objs.size := by simpa using hb
 subst e
 exact I.fpOk (Nat.le_refl _) (I.hok.fresh (Nat.le_refl _))
end
section
variable {X : Cx} {tg : Expr}
end
section
variable {X : Cx} {tg : Expr}
end
def Its (x : Str) : It := ⟨fun i _ => i < x.cps.size, fun i H v H' => H' = H ∧ ∃ c, x.cps[i]? = some c ∧ v = .str ⟨#[c]⟩, fun i _ => x.cps.size ≤ i⟩
theorem turn_str {P : Program} {w : World} {K : W.Frag} {tg : Expr} (it : Addr) (x : Str) (t : Tok) (ty : String) (hty : ty = "str_ascii_iterator" ∨ ty = "str_iterator") :
  Turn P w K tg (Its x) [it] it (fun i h => h.IsStrIter it ty x t i) where
 mem := by simp
 obj := fun i h st b hb => by
  have e : b = it := by simpa using hb
  subst e
  obtain ⟨o, e, c, d⟩ := st
  exact ⟨o, e, fun v z => by rw [d] at z; cases z⟩
 keep := fun i h h' st k => let ⟨o, ho, r⟩ := st; ⟨o, k it (by simp) o ho, r⟩
 item := by
  intro X hP hw hK hc i pins s σ H E I hf st hg
  subst hP hw hK
  obtain ⟨f0, f1, f2, f3, f4, f5⟩ := hf it (by simp)
  have W : Walks X.prog X.w X.A it [it] [it] x.cps.size (SignAt x) (fun i h => h.IsStrIter it ty x t i) := by
   rcases hty with e | e
   ·rw [e]; exact Walks.strAscii (I.ok.hd hc) it x t
   ·rw [e]; exact Walks.strWide (I.ok.hd hc) it x t
  have hno : ["enumerate", "zip", "dict_itemiterator", "dict_reverseitemiterator", "odict_iterator", "itertools.zip_longest", "itertools.pairwise"].contains ty = false := by
   rcases hty with e | e
   ·rw [e]; decide
   ·rw [e]; decide
  refine W.item i s _ _ hg st fun v h' tk hv st' kk => ?_
  obtain ⟨c, u, hcx, rfl⟩ := hv
  have I1 : Inv X pins σ H { s with heap := h', toks := tk } := I.turned (fun b o hb e => kk b o (by simpa using hb) e) f0 f1 f3 f4 f5
  obtain ⟨oi, e, cc, dd⟩ := id st'
  exact ⟨_, rfl, go_of (s := { s with heap := h', toks := tk }) e cc dd hno ⟨.str ⟨#[c]⟩, H, I1, ⟨u, rfl⟩, ⟨rfl, c, hcx, rfl⟩, st', fun b hb => (hf b hb).1⟩⟩
 done := by
  intro X hP hw hK hc i pins s σ H E I hf st hg
  subst hP hw hK
  obtain ⟨f0, f1, f2, f3, f4, f5⟩ := hf it (by simp)
  have hx : x.cps[i]? = none := Array.getElem?_eq_none hg
  rcases hty with e | e
  ·rw [e] at st
   exact wpAny_pyNext_ascii_end (I.ok.hd hc) st hx fun h' eb => ⟨rfl, I.turned (t' := s.toks) (fun b o hb e => eb b o hb e) f0 f1 f3 f4 f5⟩
  ·rw [e] at st
   exact wpAny_pyNext_wide_end (I.ok.hd hc) st hx fun h' eb => ⟨rfl, I.turned (t' := s.toks) (fun b o hb e => eb b o hb e) f0 f1 f3 f4 f5⟩
 self := fun A i s Q E st h => by
  rcases hty with e | e
  ·rw [e] at st; exact wpAny_pyIter_striter_ascii st h
  ·rw [e] at st; exact wpAny_pyIter_striter_wide st h
def iStr (te : TE) : TI := fun σ H R => te σ H fun v H1 => ∃ x, v = .str x ∧ R (Its x) H1
theorem pi_str {X : Cx} {tg e : Expr} {te : TE} (he : PE X e te) : PI X tg e (iStr te) := by
 intro pins s σ H R I h
 refine thn (he pins s σ H _ I h) fun v s1 ⟨y, H1, I1, r1, x, ex, q⟩ => ?_
 subst ex
 obtain ⟨t, rfl⟩ := r1
 cases ha : x.cps.all (· < 128)
 ·exact wpAny_pyIter_wide ha (pi_one (tk := s1.toks) I1 _ (turn_str _ x t "str_iterator" (.inr rfl)) ⟨_, Heap.get?_push_size _ rfl, rfl, rfl⟩ q)
 ·exact wpAny_pyIter_ascii ha (pi_one (tk := s1.toks) I1 _ (turn_str _ x t "str_ascii_iterator" (.inl rfl)) ⟨_, Heap.get?_push_size _ rfl, rfl, rfl⟩ q)
section
variable {prog : Program} {w : World} {A : Around} {E : Value → Shared → Prop} {s : Shared}
theorem iter_keys {d : Addr} {o : Obj} {es : Array DictEntry} {ep : Nat} {Q : Value → Shared → Prop} (hd : (d == sysModules) = false) (ho : s.heap.get? d = some o) (hc : o.ExactDict) (hdat : o.data = .dict es ep)
  (hQ : Q (.ref s.heap.objs.size) { s with heap := s.heap.push { cls := .type "dict_keyiterator", data := .fields #[.ref d, .int 0 0, .int es.size 0, .int ep 0] } }) :
  wpAny (model prog w) A (pyIter (.ref d)) Q E s := by
 have hT : s.TypeIs (.ref d) "dict" := ⟨o, ho, hc.1⟩
 refine wpAny_pyIter_slot hT F.slot_dict_iter (wpAny_call_entry F.slot_dict_iter hT F.entry_dict_iter ?_ (F.args_dict_iter_1 _))
 unfold Builtin.«dict.__iter__»
 refine wpAny_bind ?_
 unfold Builtin.Dict.dictSlotNone
 refine wpAny_bind (wpAny_notOrdered_dict hT ?_)
 show wpAny _ _ (pure (Value.ref d)) _ _ s
 refine wpAny_pure ?_
 show wpAny _ _ (Builtin.Dict.showsAll d >>= _) _ _ s
 unfold Builtin.Dict.showsAll
 rw [if_neg (by rw [hd]; exact Bool.false_ne_true)]
 refine wpAny_bind (wpAny_pure ?_)
 refine wpAny_bind (wpAny_dictEntries ho hdat ?_)
 refine wpAny_bind (wpAny_dictEpoch ho hdat ?_)
 refine wpAny_bind (wpAny_newObj_type (wpAny_pure ⟨_, rfl, "dict_keyiterator", _, ⟨_, Heap.get?_push_size _ rfl, rfl⟩, F.slot_dict_keyiterator_next.lookup, ?_⟩))
 simpa [rawInt] using hQ
theorem next_key_item {it d : Addr} {i n ep : Nat} {od : Obj} {es : Array DictEntry} {en : DictEntry} {Q : Option Value → Shared → Prop} (hit : s.heap.IsKeyIter it d i n ep) (hod : s.heap.get? d = some od) (hdd : od.data = .dict es ep)
  (hsz : es.size = n) (hx : es[i]? = some en) (hQ : ∀ h', h'.IsKeyIter it d (i + 1) n ep → Heap.SameBut it s.heap h' → Q (some en.key) { s with heap := h' }) : wpAny (model prog w) A (pyNext (.ref it)) Q E s := by
 obtain ⟨o, ho, hc, hd⟩ := id hit
 unfold pyNext
 refine wpAny_bind (wpAny_attempt (wpAny_callSpecial?_slot (name := Str.ofString "__next__") hit.typeIs F.slot_dict_keyiterator_next
  (wpAny_call_entry F.slot_dict_keyiterator_next hit.typeIs F.entry_dict_keyiterator_next ?_ (F.args_dict_keyiterator_next_1 _))))
 refine wpAny_bind (wpAny_pure ?_)
 refine wpAny_bind ?_
 refine wpAny_bind ?_
 first | refine wpAny_bind (wpAny_typeNameOfWhole_keyiter hit.typeIs (wpAny_pure ?_)) | refine wpAny_bind (wpAny_typeNameOf_keyiter hit.typeIs (wpAny_pure ?_))
 refine wpAny_bind (wpAny_fieldsOf ho hd ?_)
 have hown : Builtin.Dict_items.ownsTuple "dict_keyiterator" = false := by decide
 simp only [hown, Bool.false_eq_true, if_false]
 show wpAny _ _ (if (Value.ref d == Value.none) = true then _ else _) _ _ s
 rw [if_neg (show ¬ ((Value.ref d == Value.none) = true) from Bool.false_ne_true)]
 refine wpAny_bind (wpAny_pure ?_)
 refine wpAny_bind (wpAny_dictEntries hod hdd ?_)
 rw [if_neg (by rw [hsz]; simp)]
 refine wpAny_bind (wpAny_pure ?_)
 refine wpAny_bind (wpAny_dictEpoch hod hdd ?_)
 rw [if_neg (by simp)]
 refine wpAny_pure ?_
 obtain ⟨hlt', hen⟩ := Array.getElem?_eq_some_iff.mp hx
 simp only [show ¬ ((i : Int) < 0) from by omega, if_false, Int.toNat_natCast, Array.getElem?_eq_getElem hlt']
 refine wpAny_bind ?_
 first | refine wpAny_bind (wpAny_typeNameOfWhole_keyiter hit.typeIs (wpAny_pure ?_)) | refine wpAny_bind (wpAny_typeNameOf_keyiter hit.typeIs (wpAny_pure ?_))
 refine wpAny_bind (wpAny_isOneOf_keyiter hit.typeIs ?_)
 show wpAny _ _ (setField (.ref it) 1 (rawInt ((i : Int) + 1)) >>= _) _ _ s
 refine wpAny_bind (wpAny_setField ho hd (by simp) ?_)
 have hit' : (s.heap.update it (Obj.mapFields (·.setIfInBounds 1 (rawInt ((i : Int) + 1))))).IsKeyIter it d (i + 1) n ep :=
  ⟨_, Heap.get?_update_self _ ho (Obj.isFreed_of_fields (Obj.data_mapFields hd _)), (Obj.cls_mapFields ..).trans hc, by rw [Obj.data_mapFields hd]; simp [rawInt]⟩
 refine wpAny_bind (wpAny_holding ?_)
 refine wpAny_bind (wpAny_isOneOf_keyiter (s := { s with heap := s.heap.update it (Obj.mapFields (·.setIfInBounds 1 (rawInt ((i : Int) + 1)))) }) hit'.typeIs ?_)
 show wpAny _ _ (pure es[i].key) _ _ _
 rw [hen]
 exact wpAny_pure (wpAny_pure ⟨_, rfl, wpAny_pure (hQ _ hit' (Heap.SameBut.update ..))⟩)
theorem next_key_end {it d : Addr} {i n ep : Nat} {od : Obj} {es : Array DictEntry} {Q : Option Value → Shared → Prop} (hh : A.handled = none) (hit : s.heap.IsKeyIter it d i n ep) (hod : s.heap.get? d = some od) (hdd : od.data = .dict es ep)
  (hsz : es.size = n) (hge : n ≤ i) (hQ : ∀ h', Heap.ExtBut it s.heap h' → Q none { s with heap := h' }) : wpAny (model prog w) A (pyNext (.ref it)) Q E s := by
 obtain ⟨o, ho, hc, hd⟩ := id hit
 unfold pyNext
 refine wpAny_bind (wpAny_attempt (wpAny_callSpecial?_slot (name := Str.ofString "__next__") hit.typeIs F.slot_dict_keyiterator_next
  (wpAny_call_entry F.slot_dict_keyiterator_next hit.typeIs F.entry_dict_keyiterator_next ?_ (F.args_dict_keyiterator_next_1 _))))
 refine wpAny_bind (wpAny_pure ?_)
 refine wpAny_bind ?_
 refine wpAny_bind ?_
 first | refine wpAny_bind (wpAny_typeNameOfWhole_keyiter hit.typeIs (wpAny_pure ?_)) | refine wpAny_bind (wpAny_typeNameOf_keyiter hit.typeIs (wpAny_pure ?_))
 refine wpAny_bind (wpAny_fieldsOf ho hd ?_)
 have hown : Builtin.Dict_items.ownsTuple "dict_keyiterator" = false := by decide
 simp only [hown, Bool.false_eq_true, if_false]
 show wpAny _ _ (if (Value.ref d == Value.none) = true then _ else _) _ _ s
 rw [if_neg (show ¬ ((Value.ref d == Value.none) = true) from Bool.false_ne_true)]
 refine wpAny_bind (wpAny_pure ?_)
 refine wpAny_bind (wpAny_dictEntries hod hdd ?_)
 rw [if_neg (by rw [hsz]; simp)]
 refine wpAny_bind (wpAny_pure ?_)
 refine wpAny_bind (wpAny_dictEpoch hod hdd ?_)
 rw [if_neg (by simp)]
 refine wpAny_pure ?_
 have hge' : es.size ≤ i := by rw [hsz]; exact hge
 simp only [show ¬ ((i : Int) < 0) from by omega, if_false, Int.toNat_natCast, Array.getElem?_eq_none hge']
 refine wpAny_bind ?_
 first | refine wpAny_bind (wpAny_typeNameOfWhole_keyiter hit.typeIs (wpAny_pure ?_)) | refine wpAny_bind (wpAny_typeNameOf_keyiter hit.typeIs (wpAny_pure ?_))
 show wpAny _ _ (setField (.ref it) 0 .none >>= _) _ _ s
 refine wpAny_bind (wpAny_setField ho hd (by simp) ?_)
 show wpAny _ _ (newExc (.type "StopIteration") [] >>= _) _ _ _
 refine wpAny_bind ?_
 simp only [newExc, newTuple]
 refine wpAny_bind (wpAny_newObj_type ?_ (by size_fits))
 refine wpAny_bind (m := firstArgMember _ _) (wpAny_of_eq (a := Value.none) (by first | rfl | (simp only [firstArgMember]; rfl)) ?_)
 refine wpAny_newObj_type ?_ (by size_fits)
 simp only [raiseNew]
 refine wpAny_bind (wpAny_handled ?_)
 rw [show A.in1.handled = none from hh]
 refine wpAny_bind (wpAny_pure (wpAny_throw ?_))
 refine wpAny_bind (wpAny_isInstance (T := "StopIteration") (b := true) ⟨_, Heap.get?_push_size _ rfl, rfl⟩ isSubtype_stop ?_)
 exact wpAny_pure (hQ _ (((Heap.SameBut.update ..).extBut.push _).push _))
end
theorem kv_get {κ : Type} {kvs : List (κ × V)} {vs : List (κ × Value)} (h : KV kvs vs) : ∀ {i : Nat} {k : κ} {v : V}, kvs[i]? = some (k, v) → ∃ u, vs[i]? = some (k, u) ∧ RelV v u := by
 unfold KV at h
 induction h with
 | nil => intro i k v e; simp at e
 | @cons a b l₁ l₂ r t ih =>
  intro i k v e
  cases i with
  | zero =>
   simp only [List.getElem?_cons_zero, Option.some.injEq] at e
   subst e
   refine ⟨b.2, ?_, r.2⟩
   simp only [List.getElem?_cons_zero]
   exact congrArg some (Prod.ext r.1.symm rfl)
  | succ j =>
   simp only [List.getElem?_cons_succ] at e ⊢
   exact ih e
theorem paired_get {α β : Type} {G : α → β → Prop} {l₁ : List α} {l₂ : List β} (h : Paired G l₁ l₂) : ∀ {i : Nat} {a : α}, l₁[i]? = some a → ∃ b, l₂[i]? = some b ∧ G a b := by
 induction h with
 | nil => intro i a e; simp at e
 | @cons a b l₁ l₂ r t ih =>
  intro i a' e
  cases i with
  | zero =>
   simp only [List.getElem?_cons_zero, Option.some.injEq] at e
   subst e
   exact ⟨b, rfl, r⟩
  | succ j =>
   simp only [List.getElem?_cons_succ] at e ⊢
   exact ih e
theorem relV_key {k : Key} {u : Value} (h : keyIs k u = true) : RelV (kV k) u := by
 rcases keyIs_shape h with ⟨i, t, rfl, rfl⟩ | ⟨x, t, rfl, rfl⟩
 ·exact ⟨t, rfl⟩
 ·exact ⟨t, rfl⟩
section
variable {X : Cx} {pins : List (Addr × Obj)} {σ : St} {H : Hp} {s : Shared} {d : Addr} {o : Obj}
theorem Inv.frzK {kvs : List (Key × V)} (I : Inv X pins σ H s) (h : H d = some (.frz o (.dK kvs))) :
  (d == sysModules) = false ∧ s.heap.get? d = some o ∧ o.ExactDict ∧ ∃ (es : Array DictEntry) (ep : Nat) (vs : List (Key × Value)), o.data = .dict es ep ∧ es.size = kvs.length ∧ KV kvs vs ∧ s.heap.DictAt (mixKind X.prog X.w) d vs ep := by
 obtain ⟨hd, z, hs, vs, kv, o', es, ep, ho, hx, hdt, r⟩ := I.hok d _ h
 rw [hd] at ho
 cases ho
 refine ⟨hs, hd, hx, es, ep, vs, hdt, ?_, kv, o, es, hd, hx, hdt, r⟩
 have l1 := r.2.1.length
 have l2 : kvs.length = vs.length := Paired.length kv
 rw [Array.length_toList] at l1
 omega
theorem Inv.frzT {kvs : List (List Key × V)} (I : Inv X pins σ H s) (h : H d = some (.frz o (.dT kvs))) :
  (d == sysModules) = false ∧ s.heap.get? d = some o ∧ o.ExactDict ∧ ∃ (es : Array DictEntry) (ep : Nat), o.data = .dict es ep ∧ es.size = kvs.length ∧
   ∀ (i : Nat) (k : List Key) (v : V), kvs[i]? = some (k, v) → ∃ (en : DictEntry) (q : Addr), es[i]? = some en ∧ en.key = .ref q ∧ H q = some (.tup (k.map kV)) := by
 obtain ⟨hd, z, hs, xs, pr, o', es, ep, ho, hx, hdt, he, _⟩ := I.hok d _ h
 rw [hd] at ho
 cases ho
 refine ⟨hs, hd, hx, es, ep, hdt, ?_, fun i k v e => ?_⟩
 ·have l1 : es.size = xs.length := size_of_entries he
  have l2 : kvs.length = xs.length := Paired.length pr
  omega
 ·obtain ⟨b, hb, e1, e2, _⟩ := paired_get pr e
  have q := entry_at he i
  rw [hb] at q
  exact ⟨_, b.2.1, q, rfl, e2⟩
end
def Itk (d : Addr) (o : Obj) (kvs : List (Key × V)) : It :=
 ⟨fun i H => H d = some (.frz o (.dK kvs)) ∧ i < kvs.length, fun i H x H' => H' = H ∧ ∃ k v, kvs[i]? = some (k, v) ∧ x = kV k, fun i H => H d = some (.frz o (.dK kvs)) ∧ kvs.length ≤ i⟩
def Itkt (d : Addr) (o : Obj) (kvs : List (List Key × V)) : It :=
 ⟨fun i H => H d = some (.frz o (.dT kvs)) ∧ i < kvs.length, fun i H x H' => H' = H ∧ ∃ (k : List Key) (v : V) (q : Addr), kvs[i]? = some (k, v) ∧ x = .ref q ∧ H q = some (.tup (k.map kV)), fun i H => H d = some (.frz o (.dT kvs)) ∧ kvs.length ≤ i⟩
theorem dict_ep {o : Obj} {es es' : Array DictEntry} {ep ep' : Nat} (h : o.data = .dict es ep) (h' : o.data = .dict es' ep') : es' = es ∧ ep' = ep := by
 rw [h] at h'
 cases h'
 exact ⟨rfl, rfl⟩
section
variable {P : Program} {w : World} {K : W.Frag} {tg : Expr} {d : Addr} {o : Obj} {es : Array DictEntry} {ep : Nat}
theorem turn_keys {kvs : List (Key × V)} (it : Addr) (hod : o.data = .dict es ep) : Turn P w K tg (Itk d o kvs) [it] it (fun i h => h.IsKeyIter it d i kvs.length ep) where
 mem := by simp
 obj := fun i h st b hb => by
  have e : b = it := by simpa using hb
  subst e
  obtain ⟨oi, e, c, dd⟩ := st
  exact ⟨oi, e, fun v z => by rw [dd] at z; cases z⟩
 keep := fun i h h' st k => st.at fun oi e => k it (by simp) oi e
 item := by
  intro X hP hw hK hc i pins s σ H E I hf st hg
  subst hP hw hK
  obtain ⟨hd, hi⟩ := hg
  obtain ⟨f0, f1, f2, f3, f4, f5⟩ := hf it (by simp)
  obtain ⟨hs, hgd, hx, es', ep', vs, hdt, hsz, kv, hm⟩ := I.frzK hd
  obtain ⟨rfl, rfl⟩ := dict_ep hod hdt
  obtain ⟨⟨k, v⟩, hkv⟩ : ∃ p, kvs[i]? = some p := ⟨kvs[i], List.getElem?_eq_getElem hi⟩
  obtain ⟨u, hu, ru⟩ := kv_get kv hkv
  have hl : kvs.length = vs.length := Paired.length kv
  rw [hl] at st
  refine wpAny_pyNext_dict_item st hm hu fun key h' hkey st' sb => ?_
  have I1 : Inv X pins σ H { s with heap := h' } := I.turned (t' := s.toks) (fun b ob hb e => (sb.2 b hb).trans e) f0 f1 f3 f4 f5
  obtain ⟨oi, e, c, dd⟩ := id st'
  refine ⟨key, rfl, go_of (s := { s with heap := h' }) e c dd (by decide) ⟨kV k, H, I1, relV_key (show keyIs k key = true from hkey), ⟨rfl, k, v, hkv, rfl⟩, ?_, fun b hb => (hf b hb).1⟩⟩
  show h'.IsKeyIter it d (i + 1) kvs.length _
  rw [hl]
  exact st'
 done := by
  intro X hP hw hK hc i pins s σ H E I hf st hg
  subst hP hw hK
  obtain ⟨hd, hi⟩ := hg
  obtain ⟨f0, f1, f2, f3, f4, f5⟩ := hf it (by simp)
  obtain ⟨hs, hgd, hx, es', ep', vs, hdt, hsz, kv, hm⟩ := I.frzK hd
  obtain ⟨rfl, rfl⟩ := dict_ep hod hdt
  exact next_key_end (I.ok.hd hc) st hgd hdt hsz hi fun h' eb => ⟨rfl, I.turned (t' := s.toks) (fun b ob hb e => eb b ob hb e) f0 f1 f3 f4 f5⟩
 self := fun A i s Q E st h => wpAny_pyIter_keyiter st h
theorem turn_keysT {kvs : List (List Key × V)} (it : Addr) (hod : o.data = .dict es ep) : Turn P w K tg (Itkt d o kvs) [it] it (fun i h => h.IsKeyIter it d i kvs.length ep) where
 mem := by simp
 obj := fun i h st b hb => by
  have e : b = it := by simpa using hb
  subst e
  obtain ⟨oi, e, c, dd⟩ := st
  exact ⟨oi, e, fun v z => by rw [dd] at z; cases z⟩
 keep := fun i h h' st k => st.at fun oi e => k it (by simp) oi e
 item := by
  intro X hP hw hK hc i pins s σ H E I hf st hg
  subst hP hw hK
  obtain ⟨hd, hi⟩ := hg
  obtain ⟨f0, f1, f2, f3, f4, f5⟩ := hf it (by simp)
  obtain ⟨hs, hgd, hx, es', ep', hdt, hsz, ent⟩ := I.frzT hd
  obtain ⟨rfl, rfl⟩ := dict_ep hod hdt
  obtain ⟨⟨k, v⟩, hkv⟩ : ∃ p, kvs[i]? = some p := ⟨kvs[i], List.getElem?_eq_getElem hi⟩
  obtain ⟨en, q, hen, hkey, hq⟩ := ent i k v hkv
  refine next_key_item st hgd hdt hsz hen fun h' st' sb => ?_
  have I1 : Inv X pins σ H { s with heap := h' } := I.turned (t' := s.toks) (fun b ob hb e => (sb.2 b hb).trans e) f0 f1 f3 f4 f5
  obtain ⟨oi, e, c, dd⟩ := id st'
  exact ⟨en.key, rfl, go_of (s := { s with heap := h' }) e c dd (by decide) ⟨.ref q, H, I1, hkey, ⟨rfl, k, v, q, hkv, rfl, hq⟩, st', fun b hb => (hf b hb).1⟩⟩
 done := by
  intro X hP hw hK hc i pins s σ H E I hf st hg
  subst hP hw hK
  obtain ⟨hd, hi⟩ := hg
  obtain ⟨f0, f1, f2, f3, f4, f5⟩ := hf it (by simp)
  obtain ⟨hs, hgd, hx, es', ep', hdt, hsz, ent⟩ := I.frzT hd
  obtain ⟨rfl, rfl⟩ := dict_ep hod hdt
  exact next_key_end (I.ok.hd hc) st hgd hdt hsz hi fun h' eb => ⟨rfl, I.turned (t' := s.toks) (fun b ob hb e => eb b ob hb e) f0 f1 f3 f4 f5⟩
 self := fun A i s Q E st h => by
  refine wpAny_pyIter_slot st.typeIs F.slot_dict_keyiterator_iter (wpAny_call_entry F.slot_dict_keyiterator_iter st.typeIs F.entry_dict_keyiterator_iter ?_ (F.args_dict_keyiterator_iter_1 _))
  show wpAny _ _ (ret (.ref it)) _ _ s
  exact wpAny_pure ⟨_, rfl, "dict_keyiterator", _, st.typeIs, F.slot_dict_keyiterator_next.lookup, h⟩
end
def iKeys (td : TE) : TI := fun σ H R => td σ H fun x H1 => ∃ d o, x = .ref d ∧ ((∃ kvs, H1 d = some (.frz o (.dK kvs)) ∧ R (Itk d o kvs) H1) ∨ ∃ kvs, H1 d = some (.frz o (.dT kvs)) ∧ R (Itkt d o kvs) H1)
section
variable {X : Cx} {tg e : Expr} {td : TE} {apos cpos : Pos}
theorem pi_keys (he : PE X e td) : PI X tg e (iKeys td) := by
 intro pins s σ H R I h
 refine thn (he pins s σ H _ I h) fun u s1 ⟨x, H1, I1, rx, d, o, ex, q⟩ => ?_
 subst ex
 obtain rfl : u = Value.ref d := rx
 rcases q with ⟨kvs, hd, q⟩ | ⟨kvs, hd, q⟩
 ·obtain ⟨hs, hgd, hx, es, ep, vs, hdt, hsz, kv, hm⟩ := I1.frzK hd
  refine iter_keys hs hgd hx hdt (pi_one (tk := s1.toks) I1 _ (turn_keys _ hdt) ⟨_, Heap.get?_push_size _ rfl, rfl, ?_⟩ q)
  rw [hsz] <;> rfl
 ·obtain ⟨hs, hgd, hx, es, ep, hdt, hsz, ent⟩ := I1.frzT hd
  refine iter_keys hs hgd hx hdt (pi_one (tk := s1.toks) I1 _ (turn_keysT _ hdt) ⟨_, Heap.get?_push_size _ rfl, rfl, ?_⟩ q)
  rw [hsz] <;> rfl
end
end L2
section
namespace Bits
open PySem PyProof.Rows
end Bits
end
section
namespace TL
open PySem PySem.Builtin PySem.Builtin.Str PySem.StrLaws
abbrev tl (x : Str) : List Nat := x.cps.toList
def numL (n : Nat) : List Nat := (Nat.toDigits 10 n).map Char.toNat
theorem tl_num (n : Nat) : tl (Str.ofString (toString ((n : Nat) : Int))) = numL n := W.KIN.signs_num n
theorem digitChar_nat : ∀ d : Nat, d < 10 → (Nat.digitChar d).toNat = 48 + d := by decide
theorem numL_lt {n : Nat} (h : n < 10) : numL n = [48 + n] := by
 unfold numL
 rw [Nat.toDigits_of_lt_base h]
 show [(Nat.digitChar n).toNat] = _
 rw [digitChar_nat n h]
theorem numL_step {n : Nat} (h : 10 ≤ n) : numL n = numL (n / 10) ++ [48 + n % 10] := by
 have hm : n % 10 < 10 := Nat.mod_lt n (by decide)
 have t : Nat.toDigits 10 (n / 10) ++ Nat.toDigits 10 (n % 10) = Nat.toDigits 10 (10 * (n / 10) + n % 10) := Nat.toDigits_append_toDigits (by decide) (by omega) hm
 rw [Nat.div_add_mod] at t
 show (Nat.toDigits 10 n).map Char.toNat = _
 rw [← t, List.map_append, Nat.toDigits_of_lt_base hm]
 show (Nat.toDigits 10 (n / 10)).map Char.toNat ++ [(Nat.digitChar (n % 10)).toNat] = _
 rw [digitChar_nat _ hm] <;> rfl
end TL
end
namespace L2
open PySem PySem.Spec PyProof.Rows
section
variable {X : Cx} {pins : List (Addr × Obj)} {σ : St} {H : Hp} {s : Shared} {Q : VK}
end
section
variable {X : Cx}
end
section
variable {X : Cx} {o e : Expr} {to te : TE}
end
end L2
namespace L2
open PySem PySem.Spec PyProof.Rows
section
variable {X : Cx}
end
end L2
namespace Att
open PySem PySem.W PySem.Calls PyProof.Rows
section
variable {prog : Program} {w : World} {A : Around} {E : Value → Shared → Prop} {s : Shared} {K : Frag}
end
end Att
namespace L2
open PySem PySem.Spec PyProof.Rows
end L2
namespace L2
open PySem PySem.Spec PyProof.Rows
end L2
namespace L2
open PySem PySem.Spec PyProof.Rows
def inClass (s : Stmt) (j : Nat) : Stmt := match s with
 | .ClassDef _ _ _ body _ _ _ _ _ _ _ => body.getD j (.Pass ⟨0, 0, 0, 0⟩)
 | _ => .Pass ⟨0, 0, 0, 0⟩
def defArgs (s : Stmt) : Arguments := match s with
 | .FunctionDef _ a _ _ _ _ _ _ _ _ => a
 | _ => { posonlyargs := [], args := [], vararg := none, kwonlyargs := [], kw_defaults := [], kwarg := none, defaults := [] }
def defBody (s : Stmt) : List Stmt := match s with
 | .FunctionDef _ _ b _ _ _ _ _ _ _ => b
 | _ => []
def dZ (s : Stmt) : Scope := match s with
 | .FunctionDef _ _ _ _ _ _ sc _ _ _ => sc
 | _ => { kind := .function, names := [], isGenerator := false, isCoroutine := false }
abbrev CX0 : CXT := fun _ _ _ _ _ _ => False
abbrev E0 : XK := fun _ _ _ => False
theorem pass0 {X : Cx} : Passes CX0 X E0 := fun _ _ _ _ _ _ _ h => h.elim
structure Fun (K : W.Frag) (x qual : Str) (st : Stmt) (f : Addr) (fd : FuncData) : Prop where
 ex : ∃ (oc : Value) (od : Option Addr) (kV doc pm : Value) (an : Option Addr) (cdv ct : Value) (osl : Array (Option Value)),
  fd = W.fnOf x qual (defArgs st) (defBody st) (dZ st) .none kV doc pm an cdv ct ∧ K.lookup f = some ⟨oc, od, .func fd, osl⟩ ∧ W.codeIn K cdv qual = true
 kp : W.keepIn K (.ref f) = true
section
variable {P : Program} {w : World} {K : W.Frag} {mg : Str → Option Value} {base : Heap}
theorem Fun.ok {x qual : Str} {st : Stmt} {f : Addr} {fd : FuncData} {N ps : List Str} {k : Nat} {sp : Sp} (F : Fun K x qual st f fd) (S : FnScope N ps (dZ st)) (len : ∀ vs H Q E, sp vs H Q E → vs.length = ps.length)
  (hbody : ∀ (cdv : Value) (A : Around) (outer : List Env) (s : Shared) (H : Hp) (vs : List V) (Q : VK) (E : XK), Room k (A.deeper (envOfC qual (dZ st) s.heap.objs.size f cdv)) → sp vs H Q E →
   ∃ t, PSs (cxOf CX0 P w K mg base N qual (dZ st) f cdv A outer s H E).nox (defBody st) t ∧ t { nx := fun _ H' => Q .non H', rt := Q } (start N vs) H) : FnOk P w K mg base CX0 (k + 1) f fd ps sp := by
 obtain ⟨oc, od, kV, doc, pm, an, cdv, ct, osl, rfl, lk, hcd⟩ := F.ex
 refine fn_of lk hcd S len fun A outer s H vs Q E hr hsp => ?_
 obtain ⟨t, h, q⟩ := hbody cdv A outer s H vs Q E hr hsp
 exact ⟨t, h.nox, q⟩
theorem Fun.binds {x qual : Str} {st : Stmt} {f : Addr} {fd : FuncData} {ps : List Str} (F : Fun K x qual st f fd)
  (h : ∀ (kV doc pm : Value) (an : Option Addr) (cdv ct : Value) (us : List Value), us.length = ps.length → bindArgs (W.fnOf x qual (defArgs st) (defBody st) (dZ st) .none kV doc pm an cdv ct) ⟨us, []⟩ = pure (ps.zip us)) : Binds K fd ps [] := by
 obtain ⟨oc, od, kV, doc, pm, an, cdv, ct, osl, rfl, lk, hcd⟩ := F.ex
 exact .all (h kV doc pm an cdv ct)
theorem fM {x qual : Str} {st : Stmt} {f : Addr} {oc : Value} {od an : Option Addr} {osl : Array (Option Value)} {kV doc pm cdv ct : Value} (l : K.lookup f = some ⟨oc, od, .func (W.fnOf x qual (defArgs st) (defBody st) (dZ st) .none kV doc pm an cdv ct), osl⟩)
  (c : W.codeIn K cdv qual = true) (k : W.keepIn K (.ref f) = true) : Fun K x qual st f (W.fnOf x qual (defArgs st) (defBody st) (dZ st) .none kV doc pm an cdv ct) := ⟨⟨oc, od, kV, doc, pm, an, cdv, ct, osl, rfl, l, c⟩, k⟩
end
theorem hu_of {A : Around} {k : Nat} (hr : Room k A) : A.units + 1 < cLine := Nat.lt_of_le_of_lt (Nat.add_le_add_left (by decide : 1 ≤ 64) _) hr.units
section
variable {X : Cx}
theorem pv (i : Nat) {x : Str} {pos : Pos} (hN : X.N[i]? = some x := by rfl) (hv : Vis X.env.scope x := by first | exact Or.inl rfl | exact Or.inr (Or.inl rfl) | exact Or.inr (Or.inr rfl)) (hd : (x == ("__debug__" : Str)) = false := by decide)
  (hcd : (x == ("__classdict__" : Str)) = false := by decide) : PE X (.Name x pos) (tVar i) := pe_var hN hv hd hcd
theorem call_lenD : CallR X (.builtin "len") (fun xs H Q => ∃ a kvs, xs = [V.ref a] ∧ H a = some (.dK kvs) ∧ Q (.int kvs.length) H) := by
 intro pins s σ H xs us Q I r h
 obtain ⟨a, kvs, rfl, ha, q⟩ := h
 obtain ⟨u, rfl, ru⟩ := vals1 r
 cases ru
 exact d_len I (.inl ha) fun t s' I' => ⟨.int kvs.length, H, I', ⟨t, rfl⟩, q⟩
end
theorem iteF {A B : Prop} (h : B) : if false = true then A else B := by
 rw [if_neg Bool.false_ne_true]
 exact h
theorem iteT {A B : Prop} (h : A) : if true = true then A else B := by
 rw [if_pos rfl]
 exact h
theorem ite2 {c A B : Prop} [Decidable c] (h1 : c → A) (h2 : ¬ c → B) : if c then A else B := by
 by_cases h : c
 ·rw [if_pos h]
  exact h1 h
 ·rw [if_neg h]
  exact h2 h
section
variable {κ : Type} [DecidableEq κ]
theorem dropK_pos {p : κ × V} {r : List (κ × V)} {k : κ} (e : p.1 = k) : dropK (p :: r) k = dropK r k := by
 unfold dropK
 rw [List.filter_cons, if_neg (by simp [e])]
theorem dropK_neg {p : κ × V} {r : List (κ × V)} {k : κ} (e : ¬ p.1 = k) : dropK (p :: r) k = p :: dropK r k := by
 unfold dropK
 rw [List.filter_cons, if_pos (by simp [e])]
end
theorem at_of {xs : List V} {z : Int} {j : Nat} {v : V} (e : z = (j : Int)) (h : xs[j]? = some v) : atI xs z = some v := by
 rw [e]
 exact atI_nat h
theorem nd_ix {α : Type} {l : List α} (hN : l.Nodup) {i j : Nat} {x : α} (a : l[i]? = some x) (b : l[j]? = some x) : i = j := by
 obtain ⟨h1, e1⟩ := List.getElem?_eq_some_iff.mp a
 obtain ⟨h2, e2⟩ := List.getElem?_eq_some_iff.mp b
 exact (List.getElem_inj hN).mp (e1.trans e2.symm)
end L2
section
set_option Elab.async false
set_option linter.all false
set_option maxRecDepth 100000
set_option maxHeartbeats 2000000
namespace L2
open PySem PySem.Spec PyProof.Rows
open PySem.W (WData Codec OpenSpec Well WellAll ReadsW ReadsAllW)
mutual
inductive Dw (K : W.Frag) (H : Hp) : V → WData → Prop
 | non : Dw K H .non .none
 | bl (b : Bool) : Dw K H (.bl b) (.bool b)
 | int (i : Int) : Dw K H (.int i) (.int i)
 | str (x : Str) : Dw K H (.str x) (.str x)
 | byt (b : Array UInt8) : Dw K H (.byt b) (.bytes b.toList)
 | lst {a : Addr} {xs : List V} {ds : List WData} : SqL K H a xs → DwAll K H xs ds → Dw K H (.ref a) (.list ds)
 | tup {a : Addr} {xs : List V} {ds : List WData} : SqT K H a xs → DwAll K H xs ds → Dw K H (.ref a) (.tuple ds)
inductive DwAll (K : W.Frag) (H : Hp) : List V → List WData → Prop
 | nil : DwAll K H [] []
 | cons {v : V} {vs : List V} {d : WData} {ds : List WData} : Dw K H v d → DwAll K H vs ds → DwAll K H (v :: vs) (d :: ds)
end
theorem dw_ints {K : W.Frag} {H : Hp} : ∀ ns : List Int, DwAll K H (ns.map V.int) (ns.map WData.int)
 | [] => .nil
 | n :: r => .cons (.int n) (dw_ints r)
theorem ints_dw {K : W.Frag} {H : Hp} : ∀ (ns : List Int) (xs : List V), DwAll K H xs (ns.map WData.int) → xs = ns.map V.int
 | [], xs, h => by
  cases h
  rfl
 | n :: r, xs, h => by
  cases h with
  | cons h1 h2 =>
   cases h1
   rw [ints_dw r _ h2] <;> rfl
section
variable {P : Program} {w : World} {K : W.Frag} {H : Hp} {h : Heap} {R : W.WRecords} {cl : Str → Option Addr}
theorem sqL_at {a : Addr} {xs : List V} (hok : HOk P w H h) (KX : K.In h) (q : SqL K H a xs) : ∃ (its : List Value) (o : Obj) (n : Nat), Vals xs its ∧ h.get? a = some o ∧ o.cls = .type "list" ∧ o.data = .seq its.toArray n := by
 rcases q with q | ⟨o, its, n, e, hc, _, hd, _, hv⟩
 ·obtain ⟨_, its, n, hv, e⟩ := (show ObjOk P w H h a (.lst xs) from q.ok hok)
  exact ⟨its, _, n, hv, e, rfl, rfl⟩
 ·exact ⟨its.toList, o, n, hv, KX _ _ e, hc, by simp [hd]⟩
theorem sqT_at {a : Addr} {xs : List V} (hok : HOk P w H h) (KX : K.In h) (q : SqT K H a xs) : ∃ (its : List Value) (o : Obj) (n : Nat), Vals xs its ∧ h.get? a = some o ∧ o.cls = .type "tuple" ∧ o.data = .seq its.toArray n := by
 rcases q with q | ⟨o, its, n, e, hc, hd, _, hv⟩
 ·obtain ⟨_, its, hv, o, e, hc, n, hd⟩ := (show ObjOk P w H h a (.tup xs) from q.ok hok)
  exact ⟨its, o, n, hv, e, hc, hd⟩
 ·exact ⟨its.toList, o, n, hv, KX _ _ e, hc, by simp [hd]⟩
mutual
theorem Dw.reads (hok : HOk P w H h) (KX : K.In h) : ∀ (d : WData) (v : V) (u : Value), Dw K H v d → RelV v u → ∃ as, ReadsW R cl h u d as
 | .none, _, _, x, r => by
  cases x
  cases r
  exact ⟨_, ReadsW.none⟩
 | .bool b, _, _, x, r => by
  cases x
  cases r
  exact ⟨_, ReadsW.bool b⟩
 | .int i, _, _, x, r => by
  cases x
  obtain ⟨t, rfl⟩ := r
  exact ⟨_, ReadsW.int i t⟩
 | .str s, _, _, x, r => by
  cases x
  obtain ⟨t, rfl⟩ := r
  exact ⟨_, ReadsW.str s t⟩
 | .bytes b, _, _, x, r => by
  cases x
  obtain ⟨t, rfl⟩ := r
  exact ⟨_, ReadsW.bytes _ t⟩
 | .list ds, _, _, x, r => by
  cases x with
  | lst hs ha =>
   cases r
   obtain ⟨its, o, n, rv, ho, hc, hd⟩ := sqL_at hok KX hs
   obtain ⟨as, hr⟩ := Dw.readsAll hok KX ds _ its ha rv
   exact ⟨_, ReadsW.list ho hc hd hr⟩
 | .tuple ds, _, _, x, r => by
  cases x with
  | tup hs ha =>
   cases r
   obtain ⟨its, o, n, rv, ho, hc, hd⟩ := sqT_at hok KX hs
   obtain ⟨as, hr⟩ := Dw.readsAll hok KX ds _ its ha rv
   exact ⟨_, ReadsW.tuple ho hc hd hr⟩
 | .float _, _, _, x, _ => by cases x
 | .dict _, _, _, x, _ => by cases x
 | .bytearray _, _, _, x, _ => by cases x
 | .set _, _, _, x, _ => by cases x
 | .frozenset _, _, _, x, _ => by cases x
 | .obj _ _, _, _, x, _ => by cases x
theorem Dw.readsAll (hok : HOk P w H h) (KX : K.In h) : ∀ (ds : List WData) (vs : List V) (us : List Value), DwAll K H vs ds → Vals vs us → ∃ as, ReadsAllW R cl h us ds as
 | [], _, _, x, r => by
  cases x
  cases r
  exact ⟨_, ReadsAllW.nil⟩
 | d :: ds, _, _, x, r => by
  cases x with
  | cons h1 h2 =>
   cases r with
   | cons r1 r2 =>
    obtain ⟨as, q1⟩ := Dw.reads hok KX d _ _ h1 r1
    obtain ⟨bs, q2⟩ := Dw.readsAll hok KX ds _ _ h2 r2
    exact ⟨_, ReadsAllW.cons q1 q2⟩
end
end
mutual
def plW : WData → Bool
 | .none => true
 | .bool _ => true
 | .int _ => true
 | .str _ => true
 | .bytes _ => true
 | .list xs => plWs xs
 | .tuple xs => plWs xs
 | _ => false
def plWs : List WData → Bool
 | [] => true
 | x :: r => plW x && plWs r
end
theorem plWs_map {α : Type} {f : α → WData} (h : ∀ a, plW (f a) = true) : ∀ l : List α, plWs (l.map f) = true
 | [] => rfl
 | x :: r => by
  show (plW (f x) && plWs (r.map f)) = true
  rw [h x, plWs_map h r] <;> rfl
theorem pl_enc : ∀ (c : Codec) (a : c.denote), plW (c.enc a) = true
 | .unit, _ => rfl
 | .bool, _ => rfl
 | .int _ _, _ => rfl
 | .nat _ _, _ => rfl
 | .u8, _ => rfl
 | .bytes _ _, _ => rfl
 | .text _ _ _ _, _ => rfl
 | .list _ _ c, a => plWs_map (fun x => pl_enc c x) a
 | .pair c d, a => by
  show (plW (c.enc a.1) && (plW (d.enc a.2) && true)) = true
  rw [pl_enc c a.1, pl_enc d a.2] <;> rfl
 | .triple c d e, a => by
  show (plW (c.enc a.1) && (plW (d.enc a.2.1) && (plW (e.enc a.2.2) && true))) = true
  rw [pl_enc c a.1, pl_enc d a.2.1, pl_enc e a.2.2] <;> rfl
 | .option c, none => rfl
 | .option c, some x => pl_enc c x
theorem pl_encAll : ∀ (cs : List Codec) (a : Codec.denoteAll cs), plWs (Codec.encAll cs a) = true
 | [], _ => rfl
 | c :: cs, a => by
  show (plW (c.enc a.1) && plWs (Codec.encAll cs a.2)) = true
  rw [pl_enc c a.1, pl_encAll cs a.2] <;> rfl
theorem weight_mem : ∀ {xs : List WData} {d : WData}, d ∈ xs → d.weight ≤ WData.weightAll xs
 | [], d, h => absurd h (by simp)
 | x :: r, d, h => by
  show d.weight ≤ x.weight + 1 + WData.weightAll r
  rcases List.mem_cons.mp h with e | m
  ·rw [e]
   omega
  ·have z := weight_mem m
   omega
def toV : Value → V
 | .none => .non
 | .bool b => .bl b
 | .int i _ => .int i
 | .str x _ => .str x
 | .bytes b _ => .byt b
 | .ref a => .ref a
 | _ => .non
def OkU (A : List Addr) : Value → Prop
 | .none => True
 | .bool _ => True
 | .int _ _ => True
 | .str _ _ => True
 | .bytes _ _ => True
 | .ref a => a ∈ A
 | _ => False
theorem OkU.mono {A B : List Addr} (h : ∀ a ∈ A, a ∈ B) : ∀ {u : Value}, OkU A u → OkU B u := fun {u} x => by
 cases u with
 | ref a => exact h a x
 | none => trivial
 | bool b => trivial
 | int i t => trivial
 | str s t => trivial
 | bytes b t => trivial
 | _ => exact False.elim x
theorem relV_toV {A : List Addr} {u : Value} (x : OkU A u) : RelV (toV u) u := by
 cases u with
 | ref a => rfl
 | none => rfl
 | bool b => rfl
 | int i t => exact ⟨t, rfl⟩
 | str s t => exact ⟨t, rfl⟩
 | bytes b t => exact ⟨t, rfl⟩
 | _ => exact False.elim x
theorem vals_toV {A : List Addr} : ∀ {vs : List Value}, (∀ u ∈ vs, OkU A u) → Vals (vs.map toV) vs
 | [], _ => .nil
 | u :: r, h => .cons (relV_toV (h u (List.mem_cons_self ..))) (vals_toV fun x hx => h x (List.mem_cons_of_mem _ hx))
def ArgOb (h : Heap) (A : List Addr) (a : Addr) : Prop := ∃ vs : List Value, vs.length ≤ sizeLine ∧ (∀ u ∈ vs, OkU A u) ∧
 (h.get? a = some { cls := .type "list", data := .seq vs.toArray } ∨ h.get? a = some { cls := .type "tuple", data := .seq vs.toArray })
theorem ArgOb.mono {h : Heap} {A B : List Addr} {a : Addr} (k : ∀ a ∈ A, a ∈ B) (x : ArgOb h A a) : ArgOb h B a := by
 obtain ⟨vs, h1, h2, h3⟩ := x
 exact ⟨vs, h1, fun u hu => (h2 u hu).mono k, h3⟩
theorem wellAll_len {P : Params} {h : Heap} : ∀ {vs : List Value} {ds : List WData}, WellAll P h vs ds → vs.length = ds.length
 | _, _, .nil => rfl
 | _, _, .cons _ b => by
  show _ + 1 = _ + 1
  rw [wellAll_len b]
theorem well_list {P : Params} {h : Heap} {v : Value} {ds : List WData} (x : Well P h v (.list ds)) : ∃ (a : Addr) (vs : List Value), v = .ref a ∧ h.get? a = some { cls := .type "list", data := .seq vs.toArray } ∧ WellAll P h vs ds := by
 cases x with
 | list ho hall => exact ⟨_, _, rfl, ho, hall⟩
theorem well_tuple {P : Params} {h : Heap} {v : Value} {ds : List WData} (x : Well P h v (.tuple ds)) : ∃ (a : Addr) (vs : List Value), v = .ref a ∧ h.get? a = some { cls := .type "tuple", data := .seq vs.toArray } ∧ WellAll P h vs ds := by
 cases x with
 | tuple ho hall => exact ⟨_, _, rfl, ho, hall⟩
theorem well_cons {P : Params} {h : Heap} {us : List Value} {d : WData} {ds : List WData} (x : WellAll P h us (d :: ds)) : ∃ (v : Value) (vs : List Value), us = v :: vs ∧ Well P h v d ∧ WellAll P h vs ds := by
 cases x with
 | cons a b => exact ⟨_, _, rfl, a, b⟩
theorem line_of {n : Nat} (h : n ≤ 1048576) : n ≤ sizeLine := Nat.le_trans h (by decide)
section
variable {P : Params} {h : Heap}
mutual
theorem area_one : ∀ (d : WData) (v : Value), Well P h v d → plW d = true → d.weight ≤ 1048576 → ∃ A : List Addr, OkU A v ∧ ∀ a ∈ A, ArgOb h A a
 | .none, _, x, _, _ => by
  cases x
  exact ⟨[], trivial, fun a m => absurd m (by simp)⟩
 | .bool b, _, x, _, _ => by
  cases x
  exact ⟨[], trivial, fun a m => absurd m (by simp)⟩
 | .int i, _, x, _, _ => by
  cases x
  exact ⟨[], trivial, fun a m => absurd m (by simp)⟩
 | .str s, _, x, _, _ => by
  cases x
  exact ⟨[], trivial, fun a m => absurd m (by simp)⟩
 | .bytes b, _, x, _, _ => by
  cases x
  exact ⟨[], trivial, fun a m => absurd m (by simp)⟩
 | .list ds, _, x, p, z => by
  obtain ⟨a, vs, rfl, ho, hall⟩ := well_list x
  have z2 : WData.weightAll ds ≤ 1048576 := z
  obtain ⟨A, h1, h2⟩ := area_all ds _ hall p fun d hd => Nat.le_trans (weight_mem hd) z2
  have k : ∀ b ∈ A, b ∈ a :: A := fun b hb => List.mem_cons_of_mem _ hb
  refine ⟨a :: A, List.mem_cons_self .., fun b hb => ?_⟩
  rcases List.mem_cons.mp hb with e | m
  ·rw [e]
   exact ⟨vs, line_of (by rw [wellAll_len hall]; exact Nat.le_trans (W.length_le_weightAllW ds) z2), fun u hu => (h1 u hu).mono k, .inl ho⟩
  ·exact (h2 b m).mono k
 | .tuple ds, _, x, p, z => by
  obtain ⟨a, vs, rfl, ho, hall⟩ := well_tuple x
  have z2 : WData.weightAll ds ≤ 1048576 := z
  obtain ⟨A, h1, h2⟩ := area_all ds _ hall p fun d hd => Nat.le_trans (weight_mem hd) z2
  have k : ∀ b ∈ A, b ∈ a :: A := fun b hb => List.mem_cons_of_mem _ hb
  refine ⟨a :: A, List.mem_cons_self .., fun b hb => ?_⟩
  rcases List.mem_cons.mp hb with e | m
  ·rw [e]
   exact ⟨vs, line_of (by rw [wellAll_len hall]; exact Nat.le_trans (W.length_le_weightAllW ds) z2), fun u hu => (h1 u hu).mono k, .inr ho⟩
  ·exact (h2 b m).mono k
 | .float _, _, _, p, _ => Bool.noConfusion (show false = true from p)
 | .dict _, _, _, p, _ => Bool.noConfusion (show false = true from p)
 | .bytearray _, _, _, p, _ => Bool.noConfusion (show false = true from p)
 | .set _, _, _, p, _ => Bool.noConfusion (show false = true from p)
 | .frozenset _, _, _, p, _ => Bool.noConfusion (show false = true from p)
 | .obj _ _, _, _, p, _ => Bool.noConfusion (show false = true from p)
theorem area_all : ∀ (ds : List WData) (vs : List Value), WellAll P h vs ds → plWs ds = true → (∀ d ∈ ds, d.weight ≤ 1048576) → ∃ A : List Addr, (∀ u ∈ vs, OkU A u) ∧ ∀ a ∈ A, ArgOb h A a
 | [], _, x, _, _ => by
  cases x
  exact ⟨[], fun u m => absurd m (by simp), fun a m => absurd m (by simp)⟩
 | d :: ds, _, x, p, z => by
  obtain ⟨v, vs, rfl, x1, x2⟩ := well_cons x
  have q : plW d = true ∧ plWs ds = true := Bool.and_eq_true_iff.mp p
  obtain ⟨A, a1, a2⟩ := area_one d v x1 q.1 (z d (List.mem_cons_self ..))
  obtain ⟨B, b1, b2⟩ := area_all ds vs x2 q.2 fun e he => z e (List.mem_cons_of_mem _ he)
  have kA : ∀ b ∈ A, b ∈ A ++ B := fun b hb => List.mem_append.mpr (.inl hb)
  have kB : ∀ b ∈ B, b ∈ A ++ B := fun b hb => List.mem_append.mpr (.inr hb)
  refine ⟨A ++ B, fun u hu => ?_, fun b hb => ?_⟩
  ·rcases List.mem_cons.mp hu with e | m
   ·rw [e]
    exact a1.mono kA
   ·exact (b1 u m).mono kB
  ·rcases List.mem_append.mp hb with m | m
   ·exact (a2 b m).mono kA
   ·exact (b2 b m).mono kB
end
end
def hoOf (o : Obj) : Option HO := match o.data with
 | .seq vs _ => if (o.cls == Value.type "list") = true then some (.frz o (.lst (vs.toList.map toV))) else some (.frz o (.tup (vs.toList.map toV)))
 | _ => none
def argH (K : W.Frag) (h : Heap) (A : List Addr) : Hp := fun b => if b ∈ A then (if (K.lookup b).isNone = true then (h.get? b).bind hoOf else none) else none
def OnlyF (H : Hp) : Prop := ∀ b, H b = none ∨ ∃ o u, H b = some (.frz o u)
theorem hoOf_lst (vs : List Value) : hoOf { cls := .type "list", data := .seq vs.toArray } = some (.frz { cls := .type "list", data := .seq vs.toArray } (.lst (vs.map toV))) := by
 show (if (Value.type "list" == Value.type "list") = true then some (HO.frz { cls := .type "list", data := .seq vs.toArray } (.lst (vs.toArray.toList.map toV))) else some (HO.frz { cls := .type "list", data := .seq vs.toArray } (.tup (vs.toArray.toList.map toV)))) = _
 rw [if_pos (beq_self_eq_true _)]
theorem hoOf_tup (vs : List Value) : hoOf { cls := .type "tuple", data := .seq vs.toArray } = some (.frz { cls := .type "tuple", data := .seq vs.toArray } (.tup (vs.map toV))) := by
 show (if (Value.type "tuple" == Value.type "list") = true then some (HO.frz { cls := .type "tuple", data := .seq vs.toArray } (.lst (vs.toArray.toList.map toV))) else some (HO.frz { cls := .type "tuple", data := .seq vs.toArray } (.tup (vs.toArray.toList.map toV)))) = _
 rw [if_neg (by decide)]
section
variable {P : Program} {w : World} {K : W.Frag} {h : Heap} {A : List Addr}
theorem argH_at {b : Addr} {o : Obj} (hb : b ∈ A) (hk : K.lookup b = none) (e : h.get? b = some o) : argH K h A b = hoOf o := by
 unfold argH
 rw [if_pos hb, hk, if_pos (show (none : Option Obj).isNone = true from rfl), e] <;> rfl
theorem of_argH {b : Addr} {u : HO} (q : argH K h A b = some u) : b ∈ A ∧ K.lookup b = none := by
 unfold argH at q
 by_cases hb : b ∈ A
 ·rw [if_pos hb] at q
  cases hk : K.lookup b with
  | none => exact ⟨hb, rfl⟩
  | some o =>
   rw [hk, if_neg (by simp)] at q
   cases q
 ·rw [if_neg hb] at q
  cases q
theorem argH_is (ar : ∀ a ∈ A, ArgOb h A a) {b : Addr} {u : HO} (q : argH K h A b = some u) : K.lookup b = none ∧ ∃ vs : List Value, vs.length ≤ sizeLine ∧ (∀ u ∈ vs, OkU A u) ∧
  ((h.get? b = some { cls := .type "list", data := .seq vs.toArray } ∧ u = .frz { cls := .type "list", data := .seq vs.toArray } (.lst (vs.map toV))) ∨
   (h.get? b = some { cls := .type "tuple", data := .seq vs.toArray } ∧ u = .frz { cls := .type "tuple", data := .seq vs.toArray } (.tup (vs.map toV)))) := by
 obtain ⟨hb, hk⟩ := of_argH q
 obtain ⟨vs, h1, h2, h3⟩ := ar b hb
 refine ⟨hk, vs, h1, h2, ?_⟩
 rcases h3 with e | e
 ·rw [argH_at hb hk e, hoOf_lst] at q
  exact .inl ⟨e, (Option.some.inj q).symm⟩
 ·rw [argH_at hb hk e, hoOf_tup] at q
  exact .inr ⟨e, (Option.some.inj q).symm⟩
theorem argH_only (ar : ∀ a ∈ A, ArgOb h A a) : OnlyF (argH K h A) := fun b => by
 cases q : argH K h A b with
 | none => exact .inl rfl
 | some u =>
  obtain ⟨_, vs, _, _, ⟨_, e⟩ | ⟨_, e⟩⟩ := argH_is ar q
  ·exact .inr ⟨_, _, by rw [e]⟩
  ·exact .inr ⟨_, _, by rw [e]⟩
theorem argH_ok (ar : ∀ a ∈ A, ArgOb h A a) : HOk P w (argH K h A) h := fun b u q => by
 obtain ⟨_, vs, h1, h2, ⟨e, rfl⟩ | ⟨e, rfl⟩⟩ := argH_is ar q
 ·exact ⟨e, by rw [List.length_map]; exact h1, vs, _, vals_toV h2, e⟩
 ·exact ⟨e, by rw [List.length_map]; exact h1, vs, vals_toV h2, _, e, rfl, _, rfl⟩
theorem seq_inj {c c' : Value} {vs us : List Value} (e : (some { cls := c, data := .seq vs.toArray } : Option Obj) = some { cls := c', data := .seq us.toArray }) : c = c' ∧ vs = us := by
 have e1 := Option.some.inj e
 have e2 : c = c' := congrArg Obj.cls e1
 have e3 : Data.seq vs.toArray = Data.seq us.toArray := congrArg Obj.data e1
 injection e3 with e4
 refine ⟨e2, ?_⟩
 have e5 := congrArg Array.toList e4
 simpa using e5
theorem argL (KX : K.In h) (ar : ∀ a ∈ A, ArgOb h A a) {a : Addr} {vs : List Value} (ha : a ∈ A) (e : h.get? a = some { cls := .type "list", data := .seq vs.toArray }) : (∀ u ∈ vs, OkU A u) ∧ SqL K (argH K h A) a (vs.map toV) := by
 obtain ⟨us, h1, h2, h3⟩ := ar a ha
 have hu : us = vs := by
  rcases h3 with q | q
  ·rw [e] at q
   exact (seq_inj q).2.symm
  ·rw [e] at q
   exact absurd (Value.type.inj (seq_inj q).1) (by decide)
 subst hu
 refine ⟨h2, ?_⟩
 cases hk : K.lookup a with
 | none => exact .inl (.inr ⟨_, by rw [argH_at ha hk e, hoOf_lst]⟩)
 | some o =>
  have e2 := KX a o hk
  rw [e] at e2
  obtain rfl := Option.some.inj e2
  exact .inr ⟨_, us.toArray, _, hk, rfl, rfl, rfl, by rw [List.size_toArray]; exact h1, by simpa using vals_toV h2⟩
theorem argT (KX : K.In h) (ar : ∀ a ∈ A, ArgOb h A a) {a : Addr} {vs : List Value} (ha : a ∈ A) (e : h.get? a = some { cls := .type "tuple", data := .seq vs.toArray }) : (∀ u ∈ vs, OkU A u) ∧ SqT K (argH K h A) a (vs.map toV) := by
 obtain ⟨us, h1, h2, h3⟩ := ar a ha
 have hu : us = vs := by
  rcases h3 with q | q
  ·rw [e] at q
   exact absurd (Value.type.inj (seq_inj q).1) (by decide)
  ·rw [e] at q
   exact (seq_inj q).2.symm
 subst hu
 refine ⟨h2, ?_⟩
 cases hk : K.lookup a with
 | none => exact .inl (.inr ⟨_, by rw [argH_at ha hk e, hoOf_tup]⟩)
 | some o =>
  have e2 := KX a o hk
  rw [e] at e2
  obtain rfl := Option.some.inj e2
  exact .inr ⟨_, us.toArray, _, hk, rfl, rfl, by rw [List.size_toArray]; exact h1, by simpa using vals_toV h2⟩
mutual
theorem dw_one {Pm : Params} (KX : K.In h) (ar : ∀ a ∈ A, ArgOb h A a) : ∀ (d : WData) (v : Value), Well Pm h v d → plW d = true → OkU A v → Dw K (argH K h A) (toV v) d
 | .none, _, x, _, _ => by
  cases x
  exact .non
 | .bool b, _, x, _, _ => by
  cases x
  exact .bl b
 | .int i, _, x, _, _ => by
  cases x
  exact .int i
 | .str s, _, x, _, _ => by
  cases x
  exact .str s
 | .bytes b, _, x, _, _ => by
  cases x
  have z := Dw.byt (K := K) (H := argH K h A) b.toArray
  exact z
 | .list ds, _, x, p, hu => by
  obtain ⟨a, vs, rfl, ho, hall⟩ := well_list x
  obtain ⟨h2, hs⟩ := argL KX ar hu ho
  exact .lst hs (dw_all KX ar ds _ hall p h2)
 | .tuple ds, _, x, p, hu => by
  obtain ⟨a, vs, rfl, ho, hall⟩ := well_tuple x
  obtain ⟨h2, hs⟩ := argT KX ar hu ho
  exact .tup hs (dw_all KX ar ds _ hall p h2)
 | .float _, _, _, p, _ => Bool.noConfusion (show false = true from p)
 | .dict _, _, _, p, _ => Bool.noConfusion (show false = true from p)
 | .bytearray _, _, _, p, _ => Bool.noConfusion (show false = true from p)
 | .set _, _, _, p, _ => Bool.noConfusion (show false = true from p)
 | .frozenset _, _, _, p, _ => Bool.noConfusion (show false = true from p)
 | .obj _ _, _, _, p, _ => Bool.noConfusion (show false = true from p)
theorem dw_all {Pm : Params} (KX : K.In h) (ar : ∀ a ∈ A, ArgOb h A a) : ∀ (ds : List WData) (vs : List Value), WellAll Pm h vs ds → plWs ds = true → (∀ u ∈ vs, OkU A u) → DwAll K (argH K h A) (vs.map toV) ds
 | [], _, x, _, _ => by
  cases x
  exact .nil
 | d :: ds, _, x, p, hu => by
  obtain ⟨v, vs, rfl, x1, x2⟩ := well_cons x
  have q : plW d = true ∧ plWs ds = true := Bool.and_eq_true_iff.mp p
  exact .cons (dw_one KX ar d v x1 q.1 (hu _ (List.mem_cons_self ..))) (dw_all KX ar ds vs x2 q.2 fun u m => hu u (List.mem_cons_of_mem _ m))
end
end
theorem layable_weight {ds : List WData} (h : WData.layableAll ds = true) : ∀ d ∈ ds, d.weight ≤ 1048576 := fun d hd =>
 (W.layableW_iff.mp (List.all_eq_true.mp h d hd)).2.2
theorem encAll_len : ∀ (cs : List Codec) (a : Codec.denoteAll cs), (Codec.encAll cs a).length = cs.length
 | [], _ => rfl
 | c :: cs, a => by
  show (Codec.encAll cs a.2).length + 1 = cs.length + 1
  rw [encAll_len cs a.2]
end L2
end
namespace Vb
open Vbsgae
theorem parted_ne (b : Nat) : ∀ l, parted b l ≠ []
 | [] => by simp [parted]
 | x :: r => by
  unfold parted
  split
  ·simp
  ·split <;> simp
theorem parted_snoc (b x : Nat) : ∀ l, parted b (l ++ [x]) = if x = b then parted b l ++ [[]] else (parted b l).dropLast ++ [(parted b l).getLastD [] ++ [x]]
 | [] => by
  show parted b [x] = _
  by_cases h : x = b <;> simp [parted, h]
 | y :: r => by
  have ih := parted_snoc b x r
  show parted b (y :: (r ++ [x])) = _
  have hne := parted_ne b r
  cases hp : parted b r with
  | nil => exact absurd hp hne
  | cons l m =>
   rw [hp] at ih
   have e2 : parted b (y :: r) = if y = b then [] :: l :: m else (y :: l) :: m := by
    show (match parted b r with | [] => [[y]] | l :: m => if y = b then [] :: l :: m else (y :: l) :: m) = _
    rw [hp]
   have e1 : ∀ l' m', parted b (r ++ [x]) = l' :: m' → parted b (y :: (r ++ [x])) = if y = b then [] :: l' :: m' else (y :: l') :: m' := by
    intro l' m' h
    show (match parted b (r ++ [x]) with | [] => [[y]] | l :: m => if y = b then [] :: l :: m else (y :: l) :: m) = _
    rw [h]
   rw [e2]
   by_cases hx : x = b
   ·rw [if_pos hx] at ih ⊢
    rw [e1 l (m ++ [[]]) (by simpa using ih)]
    by_cases hy : y = b <;> simp [hy]
   ·rw [if_neg hx] at ih ⊢
    cases m with
    | nil =>
     have ih' : parted b (r ++ [x]) = (l ++ [x]) :: [] := by simpa using ih
     rw [e1 _ _ ih']
     by_cases hy : y = b <;> simp [hy]
    | cons m0 ms =>
     have ih' : parted b (r ++ [x]) = l :: ((m0 :: ms).dropLast ++ [(m0 :: ms).getLastD [] ++ [x]]) := by
      rw [ih]; simp [List.dropLast, List.getLastD]
     rw [e1 _ _ ih']
     by_cases hy : y = b <;> simp [hy, List.dropLast, List.getLastD]
theorem parted_sum (b : Nat) : ∀ l, ((parted b l).map fun w => w.length + 1).sum = l.length + 1
 | [] => by simp [parted]
 | y :: r => by
  have ih := parted_sum b r
  have hne := parted_ne b r
  cases hp : parted b r with
  | nil => exact absurd hp hne
  | cons l m =>
   have e2 : parted b (y :: r) = if y = b then [] :: l :: m else (y :: l) :: m := by
    show (match parted b r with | [] => [[y]] | l :: m => if y = b then [] :: l :: m else (y :: l) :: m) = _
    rw [hp]
   rw [hp] at ih
   rw [e2]
   by_cases hy : y = b
   ·simp [hy] at ih ⊢; omega
   ·simp [hy] at ih ⊢; omega
theorem parted_len (b : Nat) (l : List Nat) : (parted b l).length ≤ l.length + 1 := by
 have h := parted_sum b l
 have : ∀ m : List (List Nat), m.length ≤ (m.map fun w => w.length + 1).sum := by
  intro m
  induction m with
  | nil => simp
  | cons a m ih => simp; omega
 have h3 := this (parted b l)
 exact Nat.le_trans h3 (Nat.le_of_eq h)
theorem parted_mem (b : Nat) : ∀ (l : List Nat) (w : List Nat), w ∈ parted b l → (∀ x ∈ w, x ∈ l) ∧ w.length ≤ l.length
 | [], w, h => by
  have : w = [] := by simpa [parted] using h
  subst this
  simp
 | y :: r, w, h => by
  have ih := parted_mem b r
  have hne := parted_ne b r
  cases hp : parted b r with
  | nil => exact absurd hp hne
  | cons l m =>
   have e2 : parted b (y :: r) = if y = b then [] :: l :: m else (y :: l) :: m := by
    show (match parted b r with | [] => [[y]] | l :: m => if y = b then [] :: l :: m else (y :: l) :: m) = _
    rw [hp]
   rw [hp] at ih
   rw [e2] at h
   by_cases hy : y = b
   ·rw [if_pos hy] at h
    rcases List.mem_cons.mp h with rfl | h
    ·simp
    ·obtain ⟨h1, h2⟩ := ih w h
     exact ⟨fun x hx => List.mem_cons_of_mem _ (h1 x hx), by simp; omega⟩
   ·rw [if_neg hy] at h
    rcases List.mem_cons.mp h with rfl | h
    ·obtain ⟨h1, h2⟩ := ih l (.head _)
     refine ⟨fun x hx => ?_, by simp; omega⟩
     rcases List.mem_cons.mp hx with rfl | hx
     ·exact .head _
     ·exact List.mem_cons_of_mem _ (h1 x hx)
    ·obtain ⟨h1, h2⟩ := ih w (List.mem_cons_of_mem _ h)
     exact ⟨fun x hx => List.mem_cons_of_mem _ (h1 x hx), by simp; omega⟩
theorem linesOf_eq (t : List Nat) : linesOf t = if ((parted 10 t).getLastD []).isEmpty = true then (parted 10 t).dropLast else parted 10 t := rfl
theorem linesOf_len (t : List Nat) : (linesOf t).length ≤ t.length + 1 := by
 rw [linesOf_eq]
 have := parted_len 10 t
 split
 ·rw [List.length_dropLast]; omega
 ·omega
theorem linesOf_mem {t w : List Nat} (h : w ∈ linesOf t) : (∀ x ∈ w, x ∈ t) ∧ w.length ≤ t.length := by
 rw [linesOf_eq] at h
 split at h
 ·exact parted_mem 10 t w (List.dropLast_subset _ h)
 ·exact parted_mem 10 t w h
theorem words_mem {t w : List Nat} (h : w ∈ words t) : (∀ x ∈ w, x ∈ t) ∧ w.length ≤ t.length ∧ w ≠ [] := by
 unfold words at h
 rw [List.mem_filter] at h
 obtain ⟨h1, h2⟩ := h
 obtain ⟨a, b⟩ := parted_mem 32 t w h1
 exact ⟨a, b, by intro e; subst e; simp at h2⟩
theorem words_len (t : List Nat) : (words t).length ≤ t.length + 1 := by
 unfold words
 exact Nat.le_trans (List.length_filter_le _ _) (parted_len 32 t)
def priceOf (d : List Nat) : Nat := if (!d.isEmpty && (decide (d.length ≤ 5) && (decide (d.headD 48 ≠ 48) && decide (valueOf d ≤ PRICE)))) = true then valueOf d else 0
theorem valueOf_snoc (d : List Nat) (x : Nat) : valueOf (d ++ [x]) = 10 * valueOf d + (x - 48) := by
 unfold valueOf
 rw [List.foldl_append]
 rfl
theorem foldl_ge (l : List Nat) : ∀ n, n ≤ l.foldl (fun n x => 10 * n + (x - 48)) n := by
 induction l with
 | nil => intro n; exact Nat.le_refl _
 | cons a l ih => intro n; exact Nat.le_trans (show n ≤ 10 * n + (a - 48) by omega) (ih _)
theorem valueOf_pos {d : List Nat} (hd : d.all digit = true) (h : d.headD 48 ≠ 48) : 0 < valueOf d := by
 cases d with
 | nil => exact absurd rfl h
 | cons a r =>
  have h1 : a ≠ 48 := h
  have h2 : digit a = true := by
   rw [List.all_cons, Bool.and_eq_true] at hd
   exact hd.1
  unfold digit at h2
  rw [Bool.and_eq_true, decide_eq_true_iff, decide_eq_true_iff] at h2
  unfold valueOf
  show 0 < r.foldl (fun n x => 10 * n + (x - 48)) (10 * 0 + (a - 48))
  exact Nat.lt_of_lt_of_le (by omega) (foldl_ge r _)
theorem valueOf_lt : ∀ {d : List Nat}, d.all digit = true → valueOf d < 10 ^ d.length := by
 intro d
 suffices H : ∀ (d : List Nat) (n k : Nat), d.all digit = true → n < 10 ^ k → d.foldl (fun n x => 10 * n + (x - 48)) n < 10 ^ (k + d.length) by
  intro hd
  have := H d 0 0 hd (by decide)
  rwa [Nat.zero_add] at this
 intro d
 induction d with
 | nil => intro n k _ h; exact h
 | cons a r ih =>
  intro n k hd hn
  rw [List.all_cons, Bool.and_eq_true] at hd
  have h2 := hd.1
  unfold digit at h2
  rw [Bool.and_eq_true, decide_eq_true_iff, decide_eq_true_iff] at h2
  have := ih (10 * n + (a - 48)) (k + 1) hd.2 (by rw [Nat.pow_succ]; omega)
  rw [List.length_cons, show k + (r.length + 1) = k + 1 + r.length by omega]
  exact this
def goodLetters (l : List Nat) : Bool := rising l && (!(l.contains 98 && l.contains 99) && l.all fun x => [98, 99, 101, 102].contains x)
theorem rising_cons {a b : Nat} {r : List Nat} : rising (a :: b :: r) = (decide (a < b) && rising (b :: r)) := rfl
theorem rising_iff : ∀ l : List Nat, rising l = true ↔ l.Pairwise (· < ·)
 | [] => by simp [rising]
 | [a] => by simp [rising]
 | a :: b :: r => by
  rw [rising_cons, Bool.and_eq_true, decide_eq_true_iff, rising_iff (b :: r), List.pairwise_cons (a := a)]
  constructor
  ·rintro ⟨h1, h2⟩
   refine ⟨fun c hc => ?_, h2⟩
   rcases List.mem_cons.mp hc with rfl | hc
   ·exact h1
   ·exact Nat.lt_trans h1 ((List.pairwise_cons.mp h2).1 c hc)
  ·rintro ⟨h1, h2⟩
   exact ⟨h1 b (.head _), h2⟩
theorem sub_filter : ∀ (L l : List Nat), L.Pairwise (· < ·) → l.Pairwise (· < ·) → (∀ x ∈ l, x ∈ L) → L.filter (fun x => l.contains x) = l
 | [], l, _, _, h => by
  cases l with
  | nil => rfl
  | cons a r => exact absurd (h a (.head _)) (by simp)
 | a :: L, l, hL, hl, h => by
  have hL' := List.pairwise_cons.mp hL
  by_cases ha : a ∈ l
  ·cases l with
   | nil => simp at ha
   | cons c r =>
    have hl' := List.pairwise_cons.mp hl
    have hac : a = c := by
     rcases List.mem_cons.mp ha with e | e
     ·exact e
     ·have h1 := hl'.1 a e
      rcases List.mem_cons.mp (h c (.head _)) with e2 | e2
      ·omega
      ·have := hL'.1 c e2; omega
    subst hac
    rw [List.filter_cons, if_pos (by simp)]
    congr 1
    have hr : ∀ x ∈ r, x ∈ L := fun x hx => by
     rcases List.mem_cons.mp (h x (List.mem_cons_of_mem _ hx)) with e | e
     ·have := hl'.1 x hx; omega
     ·exact e
    rw [← sub_filter L r hL'.2 hl'.2 hr]
    refine List.filter_congr fun x hx => ?_
    have hxa : x ≠ a := by have := hL'.1 x hx; omega
    rw [sub_filter L r hL'.2 hl'.2 hr]
    simp [hxa]
  ·rw [List.filter_cons, if_neg (by simpa using ha)]
   refine sub_filter L l hL'.2 hl fun x hx => ?_
   rcases List.mem_cons.mp (h x hx) with e | e
   ·subst e; exact absurd hx ha
   ·exact e
theorem letters_eq (l : List Nat) : (rising l && l.all fun x => [98, 99, 101, 102].contains x) = decide (l = [98, 99, 101, 102].filter fun x => l.contains x) := by
 have hL : ([98, 99, 101, 102] : List Nat).Pairwise (· < ·) := by decide
 rw [Bool.eq_iff_iff, Bool.and_eq_true, decide_eq_true_iff, rising_iff, List.all_eq_true]
 constructor
 ·rintro ⟨h1, h2⟩
  refine (sub_filter _ l hL h1 fun x hx => ?_).symm
  have := h2 x hx
  simpa using this
 ·intro h
  refine ⟨?_, fun x hx => ?_⟩
  ·rw [h]; exact hL.filter _
  ·rw [h] at hx
   have := (List.mem_filter.mp hx).1
   simpa using this
theorem good_eq (l : List Nat) : goodLetters l = if (l.contains 98 && l.contains 99) = true then false else decide (l = [98, 99, 101, 102].filter fun x => l.contains x) := by
 rw [← letters_eq]
 unfold goodLetters
 cases rising l <;> cases (l.contains 98 && l.contains 99) <;> simp
theorem cellOf_eq (w : List Nat) : cellOf w = if priceOf (w.takeWhile digit) = 0 ∨ goodLetters (w.drop (w.takeWhile digit).length) = false then none else some ⟨priceOf (w.takeWhile digit), w.drop (w.takeWhile digit).length⟩ := by
 have hd : (w.takeWhile digit).all digit = true := by
  induction w with
  | nil => rfl
  | cons a w ih =>
   by_cases h : digit a = true
   ·simp only [List.takeWhile_cons, h, if_true, List.all_cons, Bool.true_and]; exact ih
   ·simp [List.takeWhile_cons, h]
 unfold cellOf
 dsimp only
 generalize hdd : w.takeWhile digit = d at hd ⊢
 generalize w.drop d.length = l
 have e : (!d.isEmpty && (decide (d.length ≤ 5) && (decide (d.headD 48 ≠ 48) && (decide (valueOf d ≤ PRICE) && (rising l && (!(l.contains 98 && l.contains 99) && l.all fun x => [98, 99, 101, 102].contains x)))))) =
   ((!d.isEmpty && (decide (d.length ≤ 5) && (decide (d.headD 48 ≠ 48) && decide (valueOf d ≤ PRICE)))) && goodLetters l) := by
  unfold goodLetters
  simp only [Bool.and_assoc]
 rw [e]
 unfold priceOf
 by_cases h1 : (!d.isEmpty && (decide (d.length ≤ 5) && (decide (d.headD 48 ≠ 48) && decide (valueOf d ≤ PRICE)))) = true
 ·have h3 : d.headD 48 ≠ 48 := by
   rw [Bool.and_eq_true, Bool.and_eq_true, Bool.and_eq_true] at h1
   exact of_decide_eq_true h1.2.2.1
  have h4 := valueOf_pos hd h3
  rw [h1]
  simp only [if_true, Bool.true_and]
  cases hg : goodLetters l with
  | false => simp
  | true =>
   rw [if_pos rfl, if_neg]
   rintro (h | h)
   ·omega
   ·cases h
 ·rw [Bool.not_eq_true] at h1
  rw [h1]
  simp
theorem cellOf_letters {w : List Nat} {c : Cell} (h : cellOf w = some c) : c.letters = c.letters.filter (fun x => [98, 99, 101, 102].contains x) ∧ c.letters.length ≤ 4 ∧ 1 ≤ c.price ∧ c.price ≤ 10000 := by
 rw [cellOf_eq] at h
 split at h
 ·cases h
 ·rename_i hn
  cases h
  have hg : goodLetters (w.drop (w.takeWhile digit).length) = true := by
   cases hq : goodLetters (w.drop (w.takeWhile digit).length) with
   | true => rfl
   | false => exact absurd (Or.inr hq) hn
  have hp : priceOf (w.takeWhile digit) ≠ 0 := fun e => hn (Or.inl e)
  refine ⟨?_, ?_, ?_, ?_⟩
  ·show w.drop (w.takeWhile digit).length = _
   unfold goodLetters at hg
   rw [Bool.and_eq_true, Bool.and_eq_true] at hg
   rw [List.filter_eq_self.mpr]
   exact List.all_eq_true.mp hg.2.2
  ·show (w.drop (w.takeWhile digit).length).length ≤ 4
   rw [good_eq] at hg
   split at hg
   ·cases hg
   ·have := of_decide_eq_true hg
    rw [this]
    exact List.length_filter_le _ _
  ·show 1 ≤ priceOf (w.takeWhile digit)
   omega
  ·show priceOf (w.takeWhile digit) ≤ 10000
   unfold priceOf at hp ⊢
   split at hp
   ·rename_i h1
    rw [Bool.and_eq_true, Bool.and_eq_true, Bool.and_eq_true] at h1
    rw [if_pos (by rw [Bool.and_eq_true, Bool.and_eq_true, Bool.and_eq_true]; exact h1)]
    exact of_decide_eq_true h1.2.2.2
   ·exact absurd rfl hp
end Vb
namespace Vb
open Vbsgae
theorem cellsOf_cons (w : List Nat) (r : List (List Nat)) : cellsOf (w :: r) = match cellOf w, cellsOf r with
  | some c, some l => some (c :: l)
  | _, _ => none := rfl
theorem cellsOf_some : ∀ {ws : List (List Nat)} {row : List Cell}, cellsOf ws = some row → ws.map cellOf = row.map some
 | [], row, h => by
  have : row = [] := (Option.some.inj h).symm
  subst this
  rfl
 | w :: r, row, h => by
  rw [cellsOf_cons] at h
  cases h1 : cellOf w with
  | none => rw [h1] at h; cases h
  | some c =>
   cases h2 : cellsOf r with
   | none => rw [h1, h2] at h; cases h
   | some l =>
    rw [h1, h2] at h
    have : c :: l = row := Option.some.inj h
    subst this
    rw [List.map_cons, List.map_cons, h1, cellsOf_some h2]
theorem cellsOf_none : ∀ {ws : List (List Nat)}, cellsOf ws = none → none ∈ ws.map cellOf
 | [], h => by cases h
 | w :: r, h => by
  rw [cellsOf_cons] at h
  cases h1 : cellOf w with
  | none => rw [List.map_cons, h1]; exact .head _
  | some c =>
   cases h2 : cellsOf r with
   | none => rw [List.map_cons]; exact .tail _ (cellsOf_none h2)
   | some l => rw [h1, h2] at h; cases h
theorem cellsOf_len {ws : List (List Nat)} {row : List Cell} (h : cellsOf ws = some row) : row.length = ws.length := by
 have := congrArg List.length (cellsOf_some h)
 simpa using this.symm
theorem rising_range : ∀ l : List Nat, rising l = ((List.range (l.length - 1)).map fun i => decide (l.getD i 0 < l.getD (i + 1) 0)).all id
 | [] => rfl
 | [a] => rfl
 | a :: b :: r => by
  rw [rising_cons, rising_range (b :: r)]
  show _ = ((List.range (r.length + 1)).map _).all id
  rw [List.range_succ_eq_map, List.map_cons, List.all_cons, List.map_map]
  rfl
theorem under_range (above row : List Cell) : under above row = (decide (row.length ≤ above.length) && ((List.range row.length).map fun k => decide ((row.getD k ⟨0, []⟩).price ≤ (above.getD k ⟨0, []⟩).price)).all id) := by
 unfold under
 by_cases h : row.length ≤ above.length
 ·rw [decide_eq_true h, Bool.true_and, Bool.true_and]
  induction row generalizing above with
  | nil => cases above <;> rfl
  | cons c row ih =>
   cases above with
   | nil => simp at h
   | cons a above =>
    rw [List.zip_cons_cons, List.all_cons, ih above (by simpa using h)]
    show _ = ((List.range (row.length + 1)).map _).all id
    rw [List.range_succ_eq_map, List.map_cons, List.all_cons, List.map_map]
    rfl
 ·rw [decide_eq_false h, Bool.false_and, Bool.false_and]
def rowOf (back : Board) (ws : List (List Nat)) : Option (List Cell) := match cellsOf ws with
 | none => none
 | some row => if fits back row = true then some row else none
def passed (l : List Nat) : Bool := (words l).isEmpty || ((words l).headD []).headD 0 == 35
def lineOf (back : Board) (l : List Nat) : Option Board :=
 if plain l = false then none else if passed l = true then some back else match rowOf back (words l) with
  | none => none
  | some row => some (row :: back)
theorem readFrom_cons (n : Nat) (back : Board) (l : List Nat) (r : List (List Nat)) : readFrom n back (l :: r) = match lineOf back l with
  | none => (back, n)
  | some b => readFrom (n + 1) b r := by
 show (if plain l = false then (back, n) else if ((words l).isEmpty || ((words l).headD []).headD 0 == 35) = true then readFrom (n + 1) back r else match cellsOf (words l) with
   | none => (back, n)
   | some row => if fits back row = true then readFrom (n + 1) (row :: back) r else (back, n)) = _
 unfold lineOf passed rowOf
 by_cases h1 : plain l = false
 ·rw [if_pos h1, if_pos h1]
 ·rw [if_neg h1, if_neg h1]
  by_cases h2 : ((words l).isEmpty || ((words l).headD []).headD 0 == 35) = true
  ·rw [if_pos h2, if_pos h2]
  ·rw [if_neg h2, if_neg h2]
   cases cellsOf (words l) with
   | none => rfl
   | some row =>
    dsimp only
    by_cases h3 : fits back row = true
    ·rw [if_pos h3, if_pos h3]
    ·rw [if_neg h3, if_neg h3]
theorem readFrom_nil (n : Nat) (back : Board) : readFrom n back [] = (back, 0) := rfl
structure CellGood (c : Cell) : Prop where
 p1 : 1 ≤ c.price
 p2 : c.price ≤ 10000
 len : c.letters.length ≤ 4
 mem : ∀ x ∈ c.letters, x ∈ [98, 99, 101, 102]
structure RowGood (r : List Cell) : Prop where
 len : r.length ≤ 20
 ne : r ≠ []
 cells : ∀ c ∈ r, CellGood c
structure BoardGood (b : Board) : Prop where
 len : b.length ≤ 12
 rows : ∀ r ∈ b, RowGood r
theorem cellOf_good {w : List Nat} {c : Cell} (h : cellOf w = some c) : CellGood c := by
 obtain ⟨h1, h2, h3, h4⟩ := cellOf_letters h
 refine ⟨h3, h4, h2, fun x hx => ?_⟩
 rw [h1] at hx
 have := (List.mem_filter.mp hx).2
 simpa using this
theorem cellsOf_good {ws : List (List Nat)} {row : List Cell} (h : cellsOf ws = some row) : ∀ c ∈ row, CellGood c := fun c hc => by
 have e := cellsOf_some h
 have : some c ∈ ws.map cellOf := by rw [e]; exact List.mem_map_of_mem hc
 obtain ⟨w, _, hw⟩ := List.mem_map.mp this
 exact cellOf_good hw
theorem rowOf_good {back : Board} {ws : List (List Nat)} {row : List Cell} (hne : ws ≠ []) (h : rowOf back ws = some row) : RowGood row ∧ back.length < 12 := by
 unfold rowOf at h
 cases h1 : cellsOf ws with
 | none => rw [h1] at h; cases h
 | some r =>
  rw [h1] at h
  dsimp only at h
  split at h
  ·rename_i hf
   cases h
   unfold fits at hf
   rw [Bool.and_eq_true, Bool.and_eq_true] at hf
   refine ⟨⟨of_decide_eq_true hf.1, ?_, cellsOf_good h1⟩, of_decide_eq_true hf.2.1⟩
   intro e
   have := cellsOf_len h1
   rw [e] at this
   cases ws with
   | nil => exact hne rfl
   | cons a b => cases this
  ·cases h
theorem BoardGood.cons {row : List Cell} {back : Board} (g : BoardGood back) (r : RowGood row) (h : back.length < 12) : BoardGood (row :: back) :=
 ⟨by rw [List.length_cons]; omega, fun x hx => by
  rcases List.mem_cons.mp hx with rfl | hx
  ·exact r
  ·exact g.rows x hx⟩
theorem lineOf_good {back b : Board} {l : List Nat} (g : BoardGood back) (h : lineOf back l = some b) : BoardGood b := by
 unfold lineOf at h
 split at h
 ·cases h
 ·split at h
  ·cases h; exact g
  ·rename_i hp
   cases h1 : rowOf back (words l) with
   | none => rw [h1] at h; cases h
   | some row =>
    rw [h1] at h
    have e : row :: back = b := Option.some.inj h
    subst e
    have hne : words l ≠ [] := by
     intro e
     unfold passed at hp
     rw [e] at hp
     exact hp rfl
    obtain ⟨a, c⟩ := rowOf_good hne h1
    exact g.cons a c
theorem readFrom_good : ∀ (ls : List (List Nat)) (n : Nat) (back : Board), BoardGood back → BoardGood (readFrom n back ls).1
 | [], n, back, g => g
 | l :: r, n, back, g => by
  rw [readFrom_cons]
  cases h : lineOf back l with
  | none => exact g
  | some b => exact readFrom_good r (n + 1) b (lineOf_good g h)
theorem BoardGood.nil : BoardGood ([] : Board) := ⟨by decide, fun r h => by cases h⟩
theorem BoardGood.reverse {b : Board} (g : BoardGood b) : BoardGood b.reverse := ⟨by rw [List.length_reverse]; exact g.len, fun r h => g.rows r (List.mem_reverse.mp h)⟩
theorem read_good (t : List Nat) : BoardGood (read t).1 := by
 unfold Vbsgae.read
 dsimp only
 split
 ·exact .nil
 ·split
  ·exact .nil
  ·exact (readFrom_good _ _ _ .nil).reverse
theorem start_good : BoardGood start.board := by
 refine ⟨by decide, fun r h => ?_⟩
 have : r = [⟨100, [98]⟩] := by simpa [start] using h
 subst this
 refine ⟨by decide, by simp, fun c hc => ?_⟩
 have : c = ⟨100, [98]⟩ := by simpa using hc
 subst this
 exact ⟨by decide, by decide, by decide, by decide⟩
theorem read_wrong {t : List Nat} {x : Board × Nat} (e : readFrom 1 [] (linesOf t) = x) (h : x.2 ≠ 0) : read t = ([], x.2) := by
 unfold Vbsgae.read
 dsimp only
 rw [e, if_pos h]
theorem read_none {t : List Nat} {x : Board × Nat} (e : readFrom 1 [] (linesOf t) = x) (h : x.2 = 0) (h2 : x.1 = []) : read t = ([], (linesOf t).length + 1) := by
 unfold Vbsgae.read
 dsimp only
 rw [e, if_neg (by simp [h]), if_pos (by rw [h2]; rfl)]
theorem read_ok {t : List Nat} {x : Board × Nat} (e : readFrom 1 [] (linesOf t) = x) (h : x.2 = 0) (h2 : x.1 ≠ []) : read t = (x.1.reverse, 0) := by
 unfold Vbsgae.read
 dsimp only
 rw [e, if_neg (by simp [h]), if_neg (by simpa using h2)]
theorem has_iff {b : Board} {p : Place} : has b p = true ↔ p.1 < b.length ∧ p.2 < (b.getD p.1 []).length := by
 unfold has
 rw [decide_eq_true_iff]
 constructor
 ·intro h
  refine ⟨?_, h⟩
  by_cases hp : p.1 < b.length
  ·exact hp
  ·rw [List.getD_eq_getElem?_getD, List.getElem?_eq_none (by omega)] at h
   simp at h
 ·exact fun h => h.2
def hasZ (b : Board) (r k : Int) : Bool := decide (0 ≤ r) && (decide (0 ≤ k) && has b (r.toNat, k.toNat))
theorem isPlace_eq (s : State) (r k : Int) : isPlace s r k = hasZ s.board r k := rfl
theorem hasZ_nat {b : Board} {p : Place} : hasZ b (p.1 : Int) (p.2 : Int) = has b p := by
 unfold hasZ
 simp
theorem has_up {b : Board} {p : Place} (h : has b p = true) : has b (up b p) = true := by
 unfold up
 split
 ·exact h
 ·split
  ·assumption
  ·exact h
theorem has_down {b : Board} {p : Place} (h : has b p = true) : has b (down b p) = true := by
 unfold down
 split
 ·assumption
 ·exact h
theorem has_right {b : Board} {p : Place} (h : has b p = true) : has b (right b p) = true := by
 unfold right
 split
 ·assumption
 ·exact has_up h
theorem has_left {b : Board} {p : Place} (h : has b p = true) : has b (left b p) = true := by
 unfold left
 split
 ·exact has_down h
 ·have := has_iff.mp h
  exact has_iff.mpr ⟨this.1, by show p.2 - 1 < (b.getD p.1 []).length; omega⟩
theorem has_move {b : Board} {p : Place} {m : Nat} (h : has b p = true) : has b (move b p m) = true := by
 unfold move
 split
 ·exact has_up h
 ·split
  ·exact has_right h
  ·split
   ·exact has_down h
   ·exact has_left h
theorem has_go {b : Board} : ∀ {l : List Nat} {p : Place}, has b p = true → has b (go b p l) = true
 | [], p, h => h
 | m :: l, p, h => by
  show has b (if closes b p = true then p else go b (move b p m) l) = true
  split
  ·exact h
  ·exact has_go (has_move h)
theorem go_cons (b : Board) (p : Place) (m : Nat) (r : List Nat) : go b p (m :: r) = if closes b p = true then p else go b (move b p m) r := rfl
theorem go_closed {b : Board} {p : Place} (h : closes b p = true) : ∀ l, go b p l = p
 | [] => rfl
 | m :: l => by rw [go_cons, if_pos h]
theorem move_eq {b : Board} {p : Place} {m : Nat} (h1 : 1 ≤ m) (h2 : m ≤ 4) : move b p m =
  if m = 2 ∧ hasZ b p.1 ((p.2 : Int) + 1) = true then (p.1, p.2 + 1)
  else if m = 4 ∧ (p.2 : Int) > 0 then (p.1, p.2 - 1)
  else if m = 1 ∨ m = 2 then (if hasZ b ((p.1 : Int) - 1) p.2 = true then (p.1 - 1, p.2) else p)
  else (if hasZ b ((p.1 : Int) + 1) p.2 = true then (p.1 + 1, p.2) else p) := by
 have hr : hasZ b p.1 ((p.2 : Int) + 1) = has b (p.1, p.2 + 1) := hasZ_nat (p := (p.1, p.2 + 1))
 have hd : hasZ b ((p.1 : Int) + 1) p.2 = has b (p.1 + 1, p.2) := hasZ_nat (p := (p.1 + 1, p.2))
 have hu : (if hasZ b ((p.1 : Int) - 1) p.2 = true then (p.1 - 1, p.2) else p) = up b p := by
  unfold up
  by_cases h0 : p.1 = 0
  ·rw [if_pos h0]
   unfold hasZ
   rw [h0]
   simp
  ·rw [if_neg h0]
   have : hasZ b ((p.1 : Int) - 1) p.2 = has b (p.1 - 1, p.2) := by
    rw [show ((p.1 : Int) - 1) = ((p.1 - 1 : Nat) : Int) by omega]
    exact hasZ_nat (p := (p.1 - 1, p.2))
   rw [this]
 rw [hr, hd, hu]
 obtain rfl | rfl | rfl | rfl : m = 1 ∨ m = 2 ∨ m = 3 ∨ m = 4 := by omega
 ·simp [move]
 ·simp [move, right]
 ·simp [move, down]
 ·unfold move left down
  by_cases h0 : p.2 = 0
  ·simp [h0]
  ·have : (0 : Int) < (p.2 : Int) := by omega
   simp [h0, this]
theorem before_iff {b : Board} {x y : Marker} : before b x y = true ↔
  ((cellAt b y.place).price < (cellAt b x.place).price ∨ ((cellAt b x.place).price = (cellAt b y.place).price ∧
   (y.place.2 < x.place.2 ∨ (x.place.2 = y.place.2 ∧ (x.place.1 < y.place.1 ∨ (x.place.1 = y.place.1 ∧ x.since < y.since)))))) := by
 unfold before
 dsimp only
 generalize (cellAt b x.place).price = p
 generalize (cellAt b y.place).price = q
 split
 ·rw [decide_eq_true_iff]; omega
 ·split
  ·rw [decide_eq_true_iff]; omega
  ·split
   ·rw [decide_eq_true_iff]; omega
   ·rw [decide_eq_true_iff]; omega
theorem before_trans {b : Board} {x y z : Marker} (h1 : before b x y = true) (h2 : before b y z = true) : before b x z = true := by
 rw [before_iff] at *
 omega
theorem before_irrefl {b : Board} {x : Marker} : ¬ before b x x = true := by
 rw [before_iff]
 omega
theorem before_asymm {b : Board} {x y : Marker} (h1 : before b x y = true) (h2 : before b y x = true) : False := before_irrefl (before_trans h1 h2)
theorem before_total {b : Board} {x y : Marker} (h : x.since ≠ y.since) (h1 : ¬ before b x y = true) : before b y x = true := by
 rw [before_iff] at *
 omega
theorem put_perm (b : Board) (x : Marker) : ∀ l, (put b x l).Perm (x :: l)
 | [] => .refl _
 | y :: r => by
  show (if before b x y = true then x :: y :: r else y :: put b x r).Perm _
  split
  ·exact .refl _
  ·exact ((put_perm b x r).cons y).trans (.swap x y r)
theorem put_sorted {b : Board} {x : Marker} : ∀ {l : List Marker}, l.Pairwise (fun x y => before b x y = true) → (∀ y ∈ l, x.since ≠ y.since) → (put b x l).Pairwise (fun x y => before b x y = true)
 | [], _, _ => by simp [put]
 | y :: r, hl, hx => by
  have hl' := List.pairwise_cons.mp hl
  show (if before b x y = true then x :: y :: r else y :: put b x r).Pairwise _
  split
  ·rename_i hb
   refine List.pairwise_cons.mpr ⟨fun z hz => ?_, hl⟩
   rcases List.mem_cons.mp hz with rfl | hz
   ·exact hb
   ·exact before_trans hb (hl'.1 z hz)
  ·rename_i hb
   refine List.pairwise_cons.mpr ⟨fun z hz => ?_, put_sorted hl'.2 fun z hz => hx z (.tail _ hz)⟩
   rcases List.mem_cons.mp ((put_perm b x r).mem_iff.mp hz) with rfl | hz
   ·exact before_total (hx y (.head _)) hb
   ·exact hl'.1 z hz
theorem inOrder_perm (b : Board) : ∀ l, (inOrder b l).Perm l
 | [] => .refl _
 | x :: l => (put_perm b x (inOrder b l)).trans ((inOrder_perm b l).cons x)
theorem inOrder_sorted {b : Board} : ∀ {l : List Marker}, l.Pairwise (fun x y => x.since ≠ y.since) → (inOrder b l).Pairwise (fun x y => before b x y = true)
 | [], _ => .nil
 | x :: l, h => by
  have h' := List.pairwise_cons.mp h
  exact put_sorted (inOrder_sorted h'.2) fun y hy => h'.1 y ((inOrder_perm b l).mem_iff.mp hy)
theorem inOrder_unique {b : Board} {l m : List Marker} (hl : l.Pairwise (fun x y => x.since ≠ y.since)) (hp : m.Perm l) (hs : m.Pairwise (fun x y => before b x y = true)) : inOrder b l = m := by
 refine List.Perm.eq_of_pairwise (le := fun x y => before b x y = true) (fun x y _ _ h1 h2 => (before_asymm h1 h2).elim) (inOrder_sorted hl) hs ((inOrder_perm b l).trans hp.symm)
theorem pairwise_filters {α κ : Type} [DecidableEq κ] {f : α → κ} {R : α → α → Prop} : ∀ {l : List α}, (∀ c, (l.filter (fun x => decide (f x = c))).Pairwise R) → l.Pairwise (fun x y => f x = f y → R x y)
 | [], _ => .nil
 | x :: l, h => by
  refine List.pairwise_cons.mpr ⟨fun y hy e => ?_, pairwise_filters fun c => ?_⟩
  ·have := h (f x)
   rw [List.filter_cons, if_pos (by simp)] at this
   exact (List.pairwise_cons.mp this).1 y (List.mem_filter.mpr ⟨hy, by simp [e]⟩)
  ·have := h c
   rw [List.filter_cons] at this
   split at this
   ·exact (List.pairwise_cons.mp this).2
   ·exact this
def rank (b : Board) (p : Place) : List Int := [-((cellAt b p).price : Int), -(p.2 : Int), (p.1 : Int)]
structure TInv (b : Board) (t : Table) : Prop where
 inc : t.markers.Pairwise fun x y => x.since < y.since
 nxt : ∀ m ∈ t.markers, m.since < t.next
 nd : (t.markers.map fun m => m.company).Nodup
 co : ∀ m ∈ t.markers, 1 ≤ m.company ∧ m.company ≤ 8
 pl : ∀ m ∈ t.markers, has b m.place = true
 clo : ∀ c ∈ t.closed, 1 ≤ c ∧ c ≤ 8
 clen : t.closed.length ≤ 8
 dis : ∀ m ∈ t.markers, m.company ∉ t.closed
 cnd : t.closed.Nodup
 en : t.ended = 0 ∨ t.ended = 1
theorem TInv.empty {b : Board} : TInv b empty := ⟨.nil, fun m h => (by cases h), .nil, fun m h => (by cases h), fun m h => (by cases h), fun c h => (by cases h), by decide, fun m h => (by cases h), .nil, .inl rfl⟩
theorem markerOf_some {t : Table} {c : Nat} {m : Marker} (h : markerOf t c = some m) : m ∈ t.markers ∧ m.company = c := by
 unfold markerOf at h
 exact ⟨List.mem_of_find?_eq_some h, by have := List.find?_some h; simpa using this⟩
theorem markerOf_none {t : Table} {c : Nat} (h : markerOf t c = none) : ∀ m ∈ t.markers, m.company ≠ c := fun m hm e => by
 unfold markerOf at h
 have := List.find?_eq_none.mp h m hm
 simp [e] at this
theorem nodup_sub : ∀ (l L : List Nat), l.Nodup → (∀ x ∈ l, x ∈ L) → l.length ≤ L.length
 | [], L, _, _ => Nat.zero_le _
 | a :: r, L, hn, hs => by
  have hn' := List.nodup_cons.mp hn
  have ha := hs a (.head _)
  have ih := nodup_sub r (L.erase a) hn'.2 fun x hx => (List.mem_erase_of_ne (fun e => hn'.1 (by rw [← e]; exact hx))).mpr (hs x (.tail _ hx))
  rw [List.length_erase_of_mem ha] at ih
  have : 0 < L.length := List.length_pos_of_mem ha
  rw [List.length_cons]
  omega
theorem TInv.len {b : Board} {t : Table} (T : TInv b t) : t.markers.length ≤ 8 := by
 have := nodup_sub (t.markers.map fun m => m.company) (List.range' 1 8) T.nd fun c hc => by
  obtain ⟨m, hm, rfl⟩ := List.mem_map.mp hc
  have := T.co m hm
  exact List.mem_range'_1.mpr (by omega)
 simpa using this
theorem TInv.markerOf {b : Board} {t : Table} (T : TInv b t) {m : Marker} (h : m ∈ t.markers) : Vbsgae.markerOf t m.company = some m := by
 cases e : Vbsgae.markerOf t m.company with
 | none => exact absurd rfl (markerOf_none e m h)
 | some x =>
  obtain ⟨h1, h2⟩ := markerOf_some e
  obtain ⟨i, hi, ei⟩ := List.getElem_of_mem h
  obtain ⟨j, hj, ej⟩ := List.getElem_of_mem h1
  have hij : i = j := (List.getElem_inj (h₀ := by simpa using hi) (h₁ := by simpa using hj) T.nd).mp (by simp [ei, ej, h2])
  subst hij
  rw [← ei, ← ej]
theorem TInv.ne {b : Board} {t : Table} (T : TInv b t) : t.markers.Pairwise fun x y => x.since ≠ y.since := T.inc.imp fun h => Nat.ne_of_lt h
theorem mem_without {t : Table} {c : Nat} {m : Marker} : m ∈ without t c ↔ m ∈ t.markers ∧ m.company ≠ c := by
 unfold without
 rw [List.mem_filter]
 simp
theorem TInv.carried {b : Board} {t : Table} (T : TInv b t) (c : Nat) (l : List Nat) : TInv b (carried b t c l) := by
 unfold Vbsgae.carried
 cases e : Vbsgae.markerOf t c with
 | none => exact T
 | some m =>
  obtain ⟨hm, rfl⟩ := markerOf_some e
  dsimp only
  have hw : (without t m.company).Pairwise fun x y => x.since < y.since := T.inc.filter _
  have hwn : ((without t m.company).map fun m => m.company).Nodup := by
   unfold without
   exact (List.Sublist.map _ List.filter_sublist).nodup T.nd
  have hen : ∀ q : Bool, ((if q = true then 1 else t.ended) = 0 ∨ (if q = true then 1 else t.ended) = 1) := fun q => by
   cases q
   ·simpa using T.en
   ·simp
  split
  ·exact T
  ·split
   ·refine ⟨hw, fun x hx => T.nxt x (mem_without.mp hx).1, hwn, fun x hx => T.co x (mem_without.mp hx).1, fun x hx => T.pl x (mem_without.mp hx).1, fun x hx => ?_, ?_, fun x hx hc => ?_, ?_, hen _⟩
    ·rcases List.mem_append.mp hx with hx | hx
     ·exact T.clo x hx
     ·have : x = m.company := by simpa using hx
      subst this
      exact T.co m hm
    ·have hnd : (t.closed ++ [m.company]).Nodup := by
      rw [List.nodup_append]
      refine ⟨T.cnd, by simp, fun a ha b hb e => ?_⟩
      have : b = m.company := by simpa using hb
      subst this
      subst e
      exact T.dis m hm ha
     have := nodup_sub _ (List.range' 1 8) hnd fun c hc => by
      rcases List.mem_append.mp hc with hc | hc
      ·exact List.mem_range'_1.mpr (by have := T.clo c hc; omega)
      ·have : c = m.company := by simpa using hc
       subst this
       exact List.mem_range'_1.mpr (by have := T.co m hm; omega)
     simpa using this
    ·obtain ⟨h1, h2⟩ := mem_without.mp hx
     rcases List.mem_append.mp hc with hc | hc
     ·exact T.dis x h1 hc
     ·exact h2 (by simpa using hc)
    ·show (t.closed ++ [m.company]).Nodup
     rw [List.nodup_append]
     refine ⟨T.cnd, by simp, fun a ha b hb e => ?_⟩
     have : b = m.company := by simpa using hb
     subst this
     subst e
     exact T.dis m hm ha
   ·refine ⟨?_, fun x hx => ?_, ?_, fun x hx => ?_, fun x hx => ?_, T.clo, T.clen, fun x hx => ?_, T.cnd, hen _⟩
    ·refine List.pairwise_append.mpr ⟨hw, by simp, fun x hx y hy => ?_⟩
     have : y = ⟨m.company, go b m.place l, t.next⟩ := by simpa using hy
     subst this
     exact T.nxt x (mem_without.mp hx).1
    ·rcases List.mem_append.mp hx with hx | hx
     ·have := T.nxt x (mem_without.mp hx).1
      show x.since < t.next + 1
      omega
     ·have : x = ⟨m.company, go b m.place l, t.next⟩ := by simpa using hx
      subst this
      exact Nat.lt_succ_self _
    ·show ((without t m.company ++ [(⟨m.company, go b m.place l, t.next⟩ : Marker)]).map fun m => m.company).Nodup
     rw [List.map_append, List.nodup_append]
     refine ⟨hwn, by simp, fun a ha b hb e => ?_⟩
     obtain ⟨x, hx, rfl⟩ := List.mem_map.mp ha
     have : b = m.company := by simpa using hb
     subst this
     exact (mem_without.mp hx).2 e
    ·rcases List.mem_append.mp hx with hx | hx
     ·exact T.co x (mem_without.mp hx).1
     ·have : x = ⟨m.company, go b m.place l, t.next⟩ := by simpa using hx
      subst this
      exact T.co m hm
    ·rcases List.mem_append.mp hx with hx | hx
     ·exact T.pl x (mem_without.mp hx).1
     ·have : x = ⟨m.company, go b m.place l, t.next⟩ := by simpa using hx
      subst this
      exact has_go (T.pl m hm)
    ·rcases List.mem_append.mp hx with hx | hx
     ·exact T.dis x (mem_without.mp hx).1
     ·have : x = ⟨m.company, go b m.place l, t.next⟩ := by simpa using hx
      subst this
      exact T.dis m hm
theorem TInv.begun {b : Board} {t : Table} (T : TInv b t) {c : Nat} {p : Place} (hc : 1 ≤ c ∧ c ≤ 8) (hp : has b p = true) (hn : Vbsgae.markerOf t c = none) (hcl : c ∉ t.closed) :
  TInv b ⟨t.markers ++ [⟨c, p, t.next⟩], t.next + 1, t.closed, t.ended⟩ := by
 have hx0 : ∀ {x : Marker}, x ∈ t.markers ++ [⟨c, p, t.next⟩] → x ∈ t.markers ∨ x = ⟨c, p, t.next⟩ := fun {x} hx => by
  rcases List.mem_append.mp hx with hx | hx
  ·exact .inl hx
  ·exact .inr (by simpa using hx)
 refine ⟨?_, fun x hx => ?_, ?_, fun x hx => ?_, fun x hx => ?_, T.clo, T.clen, fun x hx => ?_, T.cnd, T.en⟩
 ·refine List.pairwise_append.mpr ⟨T.inc, by simp, fun x hx y hy => ?_⟩
  have : y = ⟨c, p, t.next⟩ := by simpa using hy
  subst this
  exact T.nxt x hx
 ·rcases hx0 hx with hx | rfl
  ·have := T.nxt x hx
   show x.since < t.next + 1
   omega
  ·exact Nat.lt_succ_self _
 ·show ((t.markers ++ [(⟨c, p, t.next⟩ : Marker)]).map fun m => m.company).Nodup
  rw [List.map_append, List.nodup_append]
  refine ⟨T.nd, by simp, fun a ha b hb e => ?_⟩
  obtain ⟨x, hx, rfl⟩ := List.mem_map.mp ha
  have : b = c := by simpa using hb
  subst this
  exact markerOf_none hn x hx e
 ·rcases hx0 hx with hx | rfl
  ·exact T.co x hx
  ·exact hc
 ·rcases hx0 hx with hx | rfl
  ·exact T.pl x hx
  ·exact hp
 ·rcases hx0 hx with hx | rfl
  ·exact T.dis x hx
  ·exact hcl
theorem stack_eq {s : State} (T : TInv s.board s.table) (p : Place) : stack s p = (s.table.markers.filter fun m => m.place == p).map fun m => m.company := by
 unfold stack
 have h1 : (s.table.markers.filter fun m => m.place == p).Pairwise fun x y => x.since < y.since := T.inc.filter _
 rw [inOrder_unique (h1.imp fun h => Nat.ne_of_lt h) (.refl _)]
 refine List.Pairwise.imp_of_mem (fun {x y} hx hy h => ?_) h1
 have ex : x.place = p := by simpa using (List.mem_filter.mp hx).2
 have ey : y.place = p := by simpa using (List.mem_filter.mp hy).2
 rw [before_iff, ex, ey]
 omega
theorem order_eq {s : State} (T : TInv s.board s.table) {m : List Marker} (hp : m.Perm s.table.markers) (hs : m.Pairwise fun x y => ¬ (rank s.board y.place < rank s.board x.place)) (hst : ∀ c, m.filter (fun x => decide (rank s.board x.place = c)) = s.table.markers.filter (fun x => decide (rank s.board x.place = c))) :
  order s = m.map fun m => m.company := by
 unfold order
 have h1 : m.Pairwise fun x y => rank s.board x.place = rank s.board y.place → x.since < y.since := by
  refine pairwise_filters (f := fun x : Marker => rank s.board x.place) fun c => ?_
  rw [hst c]
  exact T.inc.filter _
 rw [inOrder_unique T.ne hp]
 refine (hs.and h1).imp fun {x y} ⟨h2, h3⟩ => ?_
 rw [before_iff]
 unfold rank at h2 h3
 simp only [List.cons_lt_cons_iff, List.cons.injEq, and_true] at h2 h3
 have h4 : ¬ (([] : List Int) < []) := by simp
 simp only [h4, and_false, or_false] at h2
 omega
end Vb
namespace Vb
open Vbsgae
def adj (b : Board) (p q : Place) : Bool := !closes b p && [1, 2, 3, 4].any fun m => move b p m == q
inductive Walk (b : Board) (p : Place) : Nat → Place → Prop
 | nil : Walk b p 0 p
 | snoc {n : Nat} {q r : Place} : Walk b p n q → adj b q r = true → Walk b p (n + 1) r
def Far (b : Board) (p : Place) (n : Nat) (q : Place) : Prop := Walk b p n q ∧ ∀ m, m < n → ¬ Walk b p m q
theorem Walk.zero {b : Board} {p q : Place} (h : Walk b p 0 q) : q = p := by cases h; rfl
theorem Walk.last {b : Board} {p q : Place} {n : Nat} (h : Walk b p (n + 1) q) : ∃ r, Walk b p n r ∧ adj b r q = true := by
 cases h with
 | snoc w a => exact ⟨_, w, a⟩
theorem adj_has {b : Board} {p q : Place} (h : has b p = true) (a : adj b p q = true) : has b q = true := by
 unfold adj at a
 rw [Bool.and_eq_true, List.any_eq_true] at a
 obtain ⟨m, _, e⟩ := a.2
 have : move b p m = q := by simpa using e
 rw [← this]
 exact has_move h
theorem Walk.has {b : Board} {p q : Place} {n : Nat} (h : Vbsgae.has b p = true) (w : Walk b p n q) : Vbsgae.has b q = true := by
 induction w with
 | nil => exact h
 | snoc _ a ih => exact adj_has ih a
theorem Far.zero {b : Board} {p q : Place} : Far b p 0 q ↔ q = p := by
 constructor
 ·exact fun h => h.1.zero
 ·rintro rfl
  exact ⟨.nil, fun m hm => absurd hm (Nat.not_lt_zero _)⟩
theorem Far.prev {b : Board} {p q : Place} {n : Nat} (h : Far b p (n + 1) q) : ∃ r, Far b p n r ∧ adj b r q = true := by
 obtain ⟨r, w, a⟩ := h.1.last
 exact ⟨r, ⟨w, fun m hm wm => h.2 (m + 1) (by omega) (.snoc wm a)⟩, a⟩
theorem Far.unique {b : Board} {p q : Place} {n m : Nat} (h : Far b p n q) (h' : Far b p m q) : n = m := by
 rcases Nat.lt_trichotomy n m with l | l | l
 ·exact absurd h.1 (h'.2 n l)
 ·exact l
 ·exact absurd h'.1 (h.2 m l)
theorem Walk.far {b : Board} {p q : Place} : ∀ {n : Nat}, Walk b p n q → ∃ m, m ≤ n ∧ Far b p m q := by
 intro n
 induction n using Nat.strongRecOn with
 | ind n ih =>
  intro w
  by_cases h : ∃ m, m < n ∧ Walk b p m q
  ·obtain ⟨m, hm, wm⟩ := h
   obtain ⟨k, hk, f⟩ := ih m hm wm
   exact ⟨k, by omega, f⟩
  ·exact ⟨n, Nat.le_refl _, w, fun m hm wm => h ⟨m, hm, wm⟩⟩
theorem mem_places {b : Board} {p : Place} : p ∈ places b ↔ has b p = true := by
 unfold places
 rw [List.mem_flatMap, has_iff]
 constructor
 ·rintro ⟨r, hr, hp⟩
  obtain ⟨k, hk, rfl⟩ := List.mem_map.mp hp
  exact ⟨List.mem_range.mp hr, List.mem_range.mp hk⟩
 ·rintro ⟨h1, h2⟩
  exact ⟨p.1, List.mem_range.mpr h1, List.mem_map.mpr ⟨p.2, List.mem_range.mpr h2, rfl⟩⟩
theorem nodup_subP : ∀ (l L : List Place), l.Nodup → (∀ x ∈ l, x ∈ L) → l.length ≤ L.length
 | [], L, _, _ => Nat.zero_le _
 | a :: r, L, hn, hs => by
  have hn' := List.nodup_cons.mp hn
  have ha := hs a (.head _)
  have ih := nodup_subP r (L.erase a) hn'.2 fun x hx => (List.mem_erase_of_ne (fun e => hn'.1 (by rw [← e]; exact hx))).mpr (hs x (.tail _ hx))
  rw [List.length_erase_of_mem ha] at ih
  have : 0 < L.length := List.length_pos_of_mem ha
  rw [List.length_cons]
  omega
theorem Far.list {b : Board} {p : Place} : ∀ {n : Nat} {q : Place}, Far b p n q → ∃ l : List Place, l.length = n + 1 ∧ l.Nodup ∧ ∀ x ∈ l, ∃ j, j ≤ n ∧ Far b p j x
 | 0, q, h => ⟨[q], rfl, by simp, fun x hx => ⟨0, Nat.le_refl _, by
  have : x = q := by simpa using hx
  subst this
  exact h⟩⟩
 | n + 1, q, h => by
  obtain ⟨r, hr, _⟩ := h.prev
  obtain ⟨l, h1, h2, h3⟩ := Far.list hr
  refine ⟨q :: l, by rw [List.length_cons, h1], List.nodup_cons.mpr ⟨fun hq => ?_, h2⟩, fun x hx => ?_⟩
  ·obtain ⟨j, hj, f⟩ := h3 q hq
   have := f.unique h
   omega
  ·rcases List.mem_cons.mp hx with rfl | hx
   ·exact ⟨n + 1, Nat.le_refl _, h⟩
   ·obtain ⟨j, hj, f⟩ := h3 x hx
    exact ⟨j, by omega, f⟩
theorem Far.lt {b : Board} {p q : Place} {n : Nat} (hp : has b p = true) (h : Far b p n q) : n < (places b).length := by
 obtain ⟨l, h1, h2, h3⟩ := h.list
 have := nodup_subP l (places b) h2 fun x hx => by
  obtain ⟨j, _, f⟩ := h3 x hx
  exact mem_places.mpr (f.1.has hp)
 omega
def nextOf (b : Board) (seen now : List Place) : List Place := (places b).filter fun p => !seen.contains p && now.any fun q => !closes b q && [1, 2, 3, 4].any fun m => move b q m == p
theorem mem_nextOf {b : Board} {seen now : List Place} {q : Place} : q ∈ nextOf b seen now ↔ has b q = true ∧ q ∉ seen ∧ ∃ r ∈ now, adj b r q = true := by
 unfold nextOf
 rw [List.mem_filter, mem_places, Bool.and_eq_true, List.any_eq_true]
 constructor
 ·rintro ⟨h1, h2, r, hr, ha⟩
  exact ⟨h1, by simpa using h2, r, hr, ha⟩
 ·rintro ⟨h1, h2, r, hr, ha⟩
  exact ⟨h1, by simpa using h2, r, hr, ha⟩
theorem spread_succ (b : Board) (n : Nat) (seen now : List Place) : spread b (n + 1) seen now = if now.isEmpty = true then [] else now :: spread b n (seen ++ nextOf b seen now) (nextOf b seen now) := rfl
theorem spread_find {b : Board} {p q : Place} (hp : has b p = true) : ∀ (f k : Nat) (seen now : List Place), (∀ x, x ∈ now ↔ Far b p k x) → (∀ x, x ∈ seen ↔ ∃ j, j ≤ k ∧ Far b p j x) →
  ∀ i, (spread b f seen now).findIdx? (fun l => l.contains q) = some i ↔ (i < f ∧ Far b p (k + i) q ∧ ∀ j, j < i → ¬ Far b p (k + j) q)
 | 0, k, seen, now, _, _, i => by simp [spread]
 | f + 1, k, seen, now, hnow, hseen, i => by
  rw [spread_succ]
  by_cases he : now.isEmpty = true
  ·rw [if_pos he]
   have hnil : now = [] := List.isEmpty_iff.mp he
   simp only [List.findIdx?_nil]
   constructor
   ·intro h; cases h
   ·rintro ⟨_, h, _⟩
    exfalso
    have : ∀ i x, Far b p (k + i) x → ∃ y, Far b p k y := by
     intro i
     induction i with
     | zero => exact fun x h => ⟨x, h⟩
     | succ i ih =>
      intro x h
      obtain ⟨r, hr, _⟩ := Far.prev (n := k + i) h
      exact ih r hr
    obtain ⟨y, hy⟩ := this i q h
    have := (hnow y).mpr hy
    rw [hnil] at this
    cases this
  ·rw [if_neg he, List.findIdx?_cons]
   by_cases hq : q ∈ now
   ·have : now.contains q = true := by simpa using hq
    rw [this]
    simp only [if_true]
    constructor
    ·intro h
     have : 0 = i := Option.some.inj h
     subst this
     exact ⟨by omega, (hnow q).mp hq, fun j hj => absurd hj (Nat.not_lt_zero _)⟩
    ·rintro ⟨_, h1, h2⟩
     have := ((hnow q).mp hq).unique h1
     have : i = 0 := by omega
     subst this
     rfl
   ·have hc : now.contains q = false := by simpa using hq
    rw [hc]
    simp only [Bool.false_eq_true, if_false]
    have hn : ∀ x, x ∈ nextOf b seen now ↔ Far b p (k + 1) x := by
     intro x
     rw [mem_nextOf]
     constructor
     ·rintro ⟨h1, h2, r, hr, ha⟩
      have wr := (hnow r).mp hr
      refine ⟨.snoc wr.1 ha, fun m hm wm => h2 ((hseen x).mpr ?_)⟩
      obtain ⟨j, hj, fj⟩ := wm.far
      exact ⟨j, by omega, fj⟩
     ·intro h
      obtain ⟨r, hr, ha⟩ := h.prev
      refine ⟨h.1.has hp, fun hs => ?_, r, (hnow r).mpr hr, ha⟩
      obtain ⟨j, hj, fj⟩ := (hseen x).mp hs
      have := fj.unique h
      omega
    have hs : ∀ x, x ∈ seen ++ nextOf b seen now ↔ ∃ j, j ≤ k + 1 ∧ Far b p j x := by
     intro x
     rw [List.mem_append, hn, hseen]
     constructor
     ·rintro (⟨j, hj, h⟩ | h)
      ·exact ⟨j, by omega, h⟩
      ·exact ⟨k + 1, Nat.le_refl _, h⟩
     ·rintro ⟨j, hj, h⟩
      by_cases hjk : j = k + 1
      ·subst hjk; exact .inr h
      ·exact .inl ⟨j, by omega, h⟩
    have ih := spread_find (q := q) hp f (k + 1) _ _ hn hs
    constructor
    ·intro h
     obtain ⟨i', hi', rfl⟩ := Option.map_eq_some_iff.mp h
     obtain ⟨h1, h2, h3⟩ := (ih i').mp hi'
     refine ⟨by omega, by rw [show k + (i' + 1) = k + 1 + i' by omega]; exact h2, fun j hj hf => ?_⟩
     cases j with
     | zero => exact hq ((hnow q).mpr hf)
     | succ j => exact h3 j (by omega) (by rw [show k + 1 + j = k + (j + 1) by omega]; exact hf)
    ·rintro ⟨h1, h2, h3⟩
     cases i with
     | zero => exact absurd ((hnow q).mpr h2) hq
     | succ i =>
      have := (ih i).mpr ⟨by omega, by rw [show k + 1 + i = k + (i + 1) by omega]; exact h2, fun j hj hf => h3 (j + 1) (by omega) (by rw [show k + (j + 1) = k + 1 + j by omega]; exact hf)⟩
      rw [this]
      rfl
theorem steps_some {b : Board} {p q : Place} (hp : has b p = true) (n : Nat) : steps b p q = some n ↔ Far b p n q := by
 unfold steps far
 rw [spread_find hp _ 0 [p] [p] (fun x => by rw [Far.zero]; simp) (fun x => by
  rw [List.mem_singleton]
  constructor
  ·rintro rfl
   exact ⟨0, Nat.le_refl _, Far.zero.mpr rfl⟩
  ·rintro ⟨j, hj, h⟩
   have : j = 0 := by omega
   subst this
   exact Far.zero.mp h)]
 rw [Nat.zero_add]
 constructor
 ·exact fun h => h.2.1
 ·intro h
  refine ⟨Nat.lt_succ_of_lt (h.lt hp), h, fun j hj hf => ?_⟩
  rw [Nat.zero_add] at hf
  have := hf.unique h
  omega
end Vb
namespace Vb
open Vbsgae
theorem joined_snoc (l : List (List Nat)) (x : List Nat) : joined (l ++ [x]) = if l = [] then x else joined l ++ 32 :: x := by
 cases l with
 | nil => simp [joined]
 | cons a r => simp [joined]
theorem joined_take {l : List (List Nat)} {k : Nat} {x : List Nat} (h : l[k]? = some x) : joined (l.take (k + 1)) = joined (l.take k) ++ ((if 0 < k then [32] else []) ++ x) := by
 have e : l.take (k + 1) = l.take k ++ [x] := by rw [List.take_add_one, h]; rfl
 have hk : k < l.length := (List.getElem?_eq_some_iff.mp h).1
 rw [e, joined_snoc]
 by_cases h0 : 0 < k
 ·rw [if_neg, if_pos h0]
  ·simp
  ·intro hn
   have := congrArg List.length hn
   rw [List.length_take] at this
   simp only [List.length_nil] at this
   omega
 ·have : k = 0 := by omega
  subst this
  simp [joined]
theorem printed_take {b : Board} {k : Nat} {row : List Cell} (h : b[k]? = some row) : printed (b.take (k + 1)) = printed (b.take k) ++ (joined (row.map shownCell) ++ [10]) := by
 have e : b.take (k + 1) = b.take k ++ [row] := by rw [List.take_add_one, h]; rfl
 unfold printed
 rw [e, List.flatMap_append]
 simp
theorem joined_len (l : List (List Nat)) : (joined l).length ≤ (l.map fun w => w.length + 1).sum := by
 cases l with
 | nil => simp [joined]
 | cons a r =>
  simp only [joined, List.length_append, List.map_cons, List.sum_cons]
  have : ∀ r : List (List Nat), (r.flatMap fun w => 32 :: w).length = (r.map fun w => w.length + 1).sum := by
   intro r
   induction r with
   | nil => rfl
   | cons a r ih => simp only [List.flatMap_cons, List.length_append, List.map_cons, List.sum_cons, List.length_cons, ih]
  rw [this]
  omega
theorem sum_le {l : List Nat} {n : Nat} (h : ∀ x ∈ l, x ≤ n) : l.sum ≤ l.length * n := by
 induction l with
 | nil => simp
 | cons a r ih =>
  have h1 := h a (.head _)
  have h2 := ih fun x hx => h x (.tail _ hx)
  simp only [List.sum_cons, List.length_cons, Nat.succ_mul]
  omega
open PyFlat in
theorem calls_cons {shape : Int → Option (Nat × Nat)} {f : Nat} {p : Int} {r : List Int} {cs : List (List (List Int))} (h : calls shape f (p :: r) = some cs) :
  ∃ f' c t cs', call shape (p :: r) = some (c, t) ∧ calls shape f' t = some cs' ∧ cs = c :: cs' := by
 cases f with
 | zero => cases h
 | succ f =>
  unfold calls at h
  cases h1 : call shape (p :: r) with
  | none => rw [h1] at h; cases h
  | some x =>
   obtain ⟨c, t⟩ := x
   rw [h1] at h
   dsimp only at h
   cases h2 : calls shape f t with
   | none => rw [h2] at h; cases h
   | some cs' =>
    rw [h2] at h
    exact ⟨f, c, t, cs', rfl, h2, (Option.some.inj h).symm⟩
open PyFlat in
theorem calls_nil {shape : Int → Option (Nat × Nat)} {f : Nat} {cs : List (List (List Int))} (h : calls shape f [] = some cs) : cs = [] := by
 cases f <;> exact (Option.some.inj h).symm
open PyFlat in
theorem row_some {r : List Int} {x s : List Int} (h : row r = some (x, s)) : ∃ n r2, r = n :: r2 ∧ 0 ≤ n ∧ n.toNat ≤ r2.length ∧ x = r2.take n.toNat ∧ s = r2.drop n.toNat := by
 cases r with
 | nil => cases h
 | cons n r2 =>
  have h : (if 0 ≤ n ∧ n.toNat ≤ r2.length then some (r2.take n.toNat, r2.drop n.toNat) else none) = some (x, s) := h
  by_cases hn : 0 ≤ n ∧ n.toNat ≤ r2.length
  ·rw [if_pos hn] at h
   have e := Option.some.inj h
   exact ⟨n, r2, rfl, hn.1, hn.2, (congrArg Prod.fst e).symm, (congrArg Prod.snd e).symm⟩
  ·rw [if_neg hn] at h
   cases h
open PyFlat in
theorem call_some {shape : Int → Option (Nat × Nat)} {p : Int} {r : List Int} {c : List (List Int)} {t : List Int} (h : call shape (p :: r) = some (c, t)) :
  ∃ n k xs, shape p = some (n, k) ∧ n ≤ r.length ∧ rows k (r.drop n) = some (xs, t) ∧ c = (p :: r.take n) :: xs := by
 unfold call at h
 dsimp only at h
 cases h1 : shape p with
 | none => rw [h1] at h; cases h
 | some x =>
  obtain ⟨n, k⟩ := x
  rw [h1] at h
  dsimp only at h
  split at h
  ·cases h
  ·rename_i hn
   cases h2 : rows k (r.drop n) with
   | none => rw [h2] at h; cases h
   | some y =>
    obtain ⟨xs, u⟩ := y
    rw [h2] at h
    have e := Option.some.inj h
    have e1 : (p :: r.take n) :: xs = c := congrArg Prod.fst e
    have e2 : u = t := congrArg Prod.snd e
    subst e2
    exact ⟨n, k, xs, rfl, by omega, h2, e1.symm⟩
open PyFlat in
theorem rows0 {r : List Int} {xs : List (List Int)} {t : List Int} (h : rows 0 r = some (xs, t)) : xs = [] ∧ t = r := by
 have e := Option.some.inj h
 exact ⟨(congrArg Prod.fst e).symm, (congrArg Prod.snd e).symm⟩
open PyFlat in
theorem rows_succ {k : Nat} {r : List Int} {xs : List (List Int)} {t : List Int} (h : rows (k + 1) r = some (xs, t)) : ∃ x s ys, row r = some (x, s) ∧ rows k s = some (ys, t) ∧ xs = x :: ys := by
 unfold rows at h
 cases h1 : row r with
 | none => rw [h1] at h; cases h
 | some y =>
  obtain ⟨x, s⟩ := y
  rw [h1] at h
  dsimp only at h
  cases h2 : rows k s with
  | none => rw [h2] at h; cases h
  | some z =>
   obtain ⟨ys, u⟩ := z
   rw [h2] at h
   have e := Option.some.inj h
   have e1 : x :: ys = xs := congrArg Prod.fst e
   have e2 : u = t := congrArg Prod.snd e
   subst e2
   exact ⟨x, s, ys, rfl, h2, e1.symm⟩
theorem dec0 {p : Int} {n : Nat} {r t : List Int} {c : List (List Int)} (hs : PyVbsgae.shape p = some (n, 0)) (h : PyFlat.call PyVbsgae.shape (p :: r) = some (c, t)) : c = [p :: r.take n] ∧ n ≤ r.length ∧ t = r.drop n := by
 obtain ⟨n', k, xs, h1, h2, h3, h4⟩ := call_some h
 rw [hs] at h1
 cases h1
 obtain ⟨rfl, rfl⟩ := rows0 h3
 exact ⟨h4, h2, rfl⟩
theorem dec1 {p : Int} {n : Nat} {r t : List Int} {c : List (List Int)} (hs : PyVbsgae.shape p = some (n, 1)) (h : PyFlat.call PyVbsgae.shape (p :: r) = some (c, t)) :
  ∃ z r2, r.drop n = z :: r2 ∧ 0 ≤ z ∧ z.toNat ≤ r2.length ∧ c = [p :: r.take n, r2.take z.toNat] ∧ n ≤ r.length ∧ t = r2.drop z.toNat := by
 obtain ⟨n', k, xs, h1, h2, h3, h4⟩ := call_some h
 rw [hs] at h1
 cases h1
 obtain ⟨x, s, ys, e1, e2, e3⟩ := rows_succ h3
 obtain ⟨rfl, rfl⟩ := rows0 e2
 obtain ⟨z, r2, e4, e5, e6, rfl, rfl⟩ := row_some e1
 exact ⟨z, r2, e4, e5, e6, by rw [h4, e3], h2, rfl⟩
theorem dec2 {p : Int} {n : Nat} {r t : List Int} {c : List (List Int)} (hs : PyVbsgae.shape p = some (n, 2)) (h : PyFlat.call PyVbsgae.shape (p :: r) = some (c, t)) :
  ∃ z r2 y r3, r.drop n = z :: r2 ∧ 0 ≤ z ∧ z.toNat ≤ r2.length ∧ r2.drop z.toNat = y :: r3 ∧ 0 ≤ y ∧ y.toNat ≤ r3.length ∧ c = [p :: r.take n, r2.take z.toNat, r3.take y.toNat] ∧ n ≤ r.length ∧ t = r3.drop y.toNat := by
 obtain ⟨n', k, xs, h1, h2, h3, h4⟩ := call_some h
 rw [hs] at h1
 cases h1
 obtain ⟨x, s, ys, e1, e2, e3⟩ := rows_succ h3
 obtain ⟨x', s', ys', f1, f2, f3⟩ := rows_succ e2
 obtain ⟨rfl, rfl⟩ := rows0 f2
 obtain ⟨z, r2, e4, e5, e6, rfl, rfl⟩ := row_some e1
 obtain ⟨y, r3, g4, g5, g6, rfl, rfl⟩ := row_some f1
 exact ⟨z, r2, y, r3, e4, e5, e6, g4, g5, g6, by rw [h4, e3, f3], h2, rfl⟩
structure SInv (s : State) : Prop where
 good : BoardGood s.board
 tab : TInv s.board s.table
 past : ∀ t ∈ s.past, TInv s.board t
 plen : s.past.length ≤ 50
 ne : s.board ≠ []
theorem SInv.start : SInv start := ⟨start_good, TInv.empty, fun t h => (by cases h), by decide, fun h => by cases h⟩
theorem SInv.changed {s : State} (S : SInv s) {t : Table} (T : TInv s.board t) : SInv (changed s t) := by
 refine ⟨S.good, T, fun x hx => ?_, ?_, S.ne⟩
 ·have : x ∈ s.table :: s.past := List.mem_of_mem_take hx
  rcases List.mem_cons.mp this with rfl | h
  ·exact S.tab
  ·exact S.past x h
 ·show ((s.table :: s.past).take PAST).length ≤ 50
  rw [List.length_take]
  exact Nat.min_le_left _ _
theorem SInv.moved {s : State} (S : SInv s) (c : Nat) (l : List Nat) : SInv (moved s c l) := S.changed (S.tab.carried c l)
theorem TInv.folded {b : Board} {l : List Nat} : ∀ {cs : List Nat} {t : Table}, TInv b t → TInv b (cs.foldl (fun t c => Vbsgae.carried b t c l) t)
 | [], t, T => T
 | c :: cs, t, T => TInv.folded (cs := cs) (T.carried c l)
theorem read_ne {t : List Nat} (h : (Vbsgae.read t).2 = 0) : (Vbsgae.read t).1 ≠ [] := by
 unfold Vbsgae.read at h ⊢
 dsimp only at h ⊢
 by_cases h1 : (readFrom 1 [] (linesOf t)).2 ≠ 0
 ·rw [if_pos h1] at h
  exact absurd h h1
 ·rw [if_neg h1] at h ⊢
  by_cases h2 : (readFrom 1 [] (linesOf t)).1.isEmpty = true
  ·rw [if_pos h2] at h
   cases h
  ·rw [if_neg h2]
   simpa using h2
theorem SInv.load {s : State} (t : List Nat) (h : (Vbsgae.read t).2 = 0) : SInv ⟨(Vbsgae.read t).1, empty, []⟩ := ⟨read_good t, TInv.empty, fun t h => (by cases h), Nat.zero_le _, read_ne h⟩
theorem SInv.undo {s : State} (S : SInv s) {t : Table} {r : List Table} (e : s.past = t :: r) : SInv ⟨s.board, t, r⟩ :=
 ⟨S.good, S.past t (by rw [e]; exact .head _), fun x hx => S.past x (by rw [e]; exact .tail _ hx), by have := S.plen; rw [e] at this; exact Nat.le_of_succ_le this, S.ne⟩
end Vb
namespace Vb
open Vbsgae
theorem has_row {b : Board} {p : Place} (h : has b p = true) : ∃ row c, b[p.1]? = some row ∧ row[p.2]? = some c ∧ cellAt b p = c := by
 obtain ⟨h1, h2⟩ := has_iff.mp h
 have e1 : b[p.1]? = some b[p.1] := List.getElem?_eq_getElem h1
 have e2 : b.getD p.1 [] = b[p.1] := by rw [List.getD_eq_getElem?_getD, e1]; rfl
 rw [e2] at h2
 have e3 : (b[p.1])[p.2]? = some (b[p.1])[p.2] := List.getElem?_eq_getElem h2
 refine ⟨b[p.1], (b[p.1])[p.2], e1, e3, ?_⟩
 unfold cellAt
 rw [e2, List.getD_eq_getElem?_getD, e3]
 rfl
theorem hasZ_iff {b : Board} {r k : Int} : hasZ b r k = true ↔ ∃ p : Place, r = p.1 ∧ k = p.2 ∧ has b p = true := by
 unfold hasZ
 rw [Bool.and_eq_true, Bool.and_eq_true, decide_eq_true_iff, decide_eq_true_iff]
 constructor
 ·rintro ⟨h1, h2, h3⟩
  exact ⟨(r.toNat, k.toNat), by show r = ((r.toNat : Nat) : Int); omega, by show k = ((k.toNat : Nat) : Int); omega, h3⟩
 ·rintro ⟨p, rfl, rfl, h⟩
  exact ⟨by omega, by omega, by simpa using h⟩
theorem hasZ_of {b : Board} {row : List Cell} {i j : Nat} (h : b[i]? = some row) : hasZ b i j = decide (j < row.length) := by
 have e1 : b.getD i [] = row := by rw [List.getD_eq_getElem?_getD, h]; rfl
 have e2 : hasZ b i j = has b (i, j) := hasZ_nat (p := (i, j))
 rw [e2]
 show decide (j < (b.getD i []).length) = _
 simp only [e1]
theorem hasZ_none {b : Board} {i : Nat} {k : Int} (h : b.length ≤ i) : hasZ b i k = false := by
 cases e : hasZ b i k with
 | false => rfl
 | true =>
  obtain ⟨p, h1, h2, h3⟩ := hasZ_iff.mp e
  have := (has_iff.mp h3).1
  omega
theorem hasZ_neg {b : Board} {r k : Int} (h : r < 0 ∨ k < 0) : hasZ b r k = false := by
 cases e : hasZ b r k with
 | false => rfl
 | true =>
  obtain ⟨p, h1, h2, h3⟩ := hasZ_iff.mp e
  omega
theorem cell_good {b : Board} (g : BoardGood b) {p : Place} (h : has b p = true) : CellGood (cellAt b p) := by
 obtain ⟨row, c, h1, h2, h3⟩ := has_row h
 rw [h3]
 exact (g.rows row (List.mem_of_getElem? h1)).cells c (List.mem_of_getElem? h2)
theorem decimal_lt {n : Nat} (h : n < 10) : decimal n = [48 + n] := by
 unfold decimal
 show (digitsBack (29 + 1) n).reverse = _
 unfold digitsBack
 rw [if_pos h, Nat.mod_eq_of_lt h]
 rfl
theorem digitsBack_enough : ∀ (f g n : Nat), n < 10 ^ f → n < 10 ^ g → 0 < f → 0 < g → digitsBack f n = digitsBack g n
 | 0, _, _, _, _, h, _ => absurd h (Nat.lt_irrefl _)
 | _, 0, _, _, _, _, h => absurd h (Nat.lt_irrefl _)
 | f + 1, g + 1, n, hf, hg, _, _ => by
  unfold digitsBack
  by_cases h : n < 10
  ·rw [if_pos h, if_pos h]
  ·rw [if_neg h, if_neg h]
   congr 1
   have h1 : n / 10 < 10 ^ f := by rw [Nat.pow_succ] at hf; omega
   have h2 : n / 10 < 10 ^ g := by rw [Nat.pow_succ] at hg; omega
   refine digitsBack_enough f g (n / 10) h1 h2 ?_ ?_
   ·cases f with
    | zero => simp at h1; omega
    | succ f => exact Nat.succ_pos _
   ·cases g with
    | zero => simp at h2; omega
    | succ g => exact Nat.succ_pos _
theorem decimal_step {n : Nat} (h : 10 ≤ n) (hn : n < 10 ^ 29) : decimal n = decimal (n / 10) ++ [48 + n % 10] := by
 have e : digitsBack 30 n = (48 + n % 10) :: digitsBack 29 (n / 10) := by
  show (48 + n % 10) :: (if n < 10 then [] else digitsBack 29 (n / 10)) = _
  rw [if_neg (by omega)]
 unfold decimal
 rw [e, digitsBack_enough 29 30 (n / 10) (by omega) (by omega) (by decide) (by decide), List.reverse_cons]
end Vb
namespace Vb
open Vbsgae
theorem decimal_unique (f : Nat → List Nat) (h1 : ∀ n, n < 10 → f n = [48 + n]) (h2 : ∀ n, 10 ≤ n → f n = f (n / 10) ++ [48 + n % 10]) : ∀ n, n < 10 ^ 29 → decimal n = f n := by
 intro n
 induction n using Nat.strongRecOn with
 | ind n ih =>
  intro hn
  by_cases h : n < 10
  ·rw [decimal_lt h, h1 n h]
  ·rw [decimal_step (by omega) hn, h2 n (by omega), ih (n / 10) (by omega) (by omega)]
theorem decimal_len {n : Nat} (h : n ≤ 10000) : (decimal n).length ≤ 5 := by
 have e : ∀ k m, m < 10 ^ (k + 1) → m < 10 ^ 29 → (decimal m).length ≤ k + 1 := by
  intro k
  induction k with
  | zero => intro m hm _; rw [decimal_lt (by omega)]; simp
  | succ k ih =>
   intro m hm h29
   by_cases h10 : m < 10
   ·rw [decimal_lt h10]; simp
   ·rw [decimal_step (by omega) h29, List.length_append]
    have := ih (m / 10) (by rw [Nat.pow_succ] at hm; omega) (by omega)
    simp only [List.length_cons, List.length_nil]
    omega
 exact e 4 n (by omega) (by omega)
theorem perm_sum {l m : List Int} (h : l.Perm m) : l.sum = m.sum := by
 induction h with
 | nil => rfl
 | cons x _ ih => simp only [List.sum_cons, ih]
 | swap x y l => simp only [List.sum_cons]; omega
 | trans _ _ ih1 ih2 => exact ih1.trans ih2
theorem filter_sum {g : Nat → Int} {p : Nat → Bool} : ∀ (L : List Nat), (∀ c ∈ L, p c = false → g c = 0) → ((L.filter p).map g).sum = (L.map g).sum
 | [], _ => rfl
 | a :: L, h => by
  have ih := filter_sum (g := g) (p := p) L fun c hc => h c (.tail _ hc)
  rw [List.filter_cons]
  by_cases hp : p a = true
  ·rw [if_pos hp, List.map_cons, List.map_cons, List.sum_cons, List.sum_cons, ih]
  ·rw [if_neg hp, List.map_cons, List.sum_cons, ih, h a (.head _) (by simpa using hp)]
   omega
theorem sub_sum {g : Nat → Int} {xs L : List Nat} (hx : xs.Nodup) (hL : L.Nodup) (hs : ∀ c ∈ xs, c ∈ L) (h0 : ∀ c ∈ L, c ∉ xs → g c = 0) : (xs.map g).sum = (L.map g).sum := by
 have hp : xs.Perm (L.filter fun c => decide (c ∈ xs)) := by
  rw [List.perm_ext_iff_of_nodup hx (hL.filter _)]
  intro a
  rw [List.mem_filter]
  constructor
  ·exact fun h => ⟨hs a h, by simpa using h⟩
  ·exact fun h => by simpa using h.2
 rw [perm_sum (hp.map g)]
 exact filter_sum L fun c hc hn => h0 c hc (by simpa using hn)
theorem zip_fold {f : Nat → Int} : ∀ (cs : List Nat) (l : List Int) (a : Int), (cs.zip l).foldl (fun a x => a + f x.1 * x.2) a = a + ((cs.zip l).map fun x => f x.1 * x.2).sum
 | [], l, a => by simp
 | c :: cs, [], a => by simp
 | c :: cs, z :: l, a => by
  rw [List.zip_cons_cons, List.foldl_cons, zip_fold cs l, List.map_cons, List.sum_cons]
  omega
theorem markerOf_price {s : State} {m : Marker} (T : TInv s.board s.table) (hm : m ∈ s.table.markers) : Vbsgae.priceOf s m.company = (cellAt s.board m.place).price := by
 unfold Vbsgae.priceOf
 rw [T.markerOf hm]
theorem worth_eq {s : State} (T : TInv s.board s.table) {l : List Int} (hl : l.length = 8) :
  (s.table.markers.map fun m => ((cellAt s.board m.place).price : Int) * l.getD (m.company - 1) 0).sum =
   (((List.range 8).map fun c => c + 1).zip l).foldl (fun a x => a + Int.ofNat (Vbsgae.priceOf s x.1) * x.2) 0 := by
 rw [zip_fold (f := fun c => Int.ofNat (Vbsgae.priceOf s c)), Int.zero_add]
 have e1 : (s.table.markers.map fun m => ((cellAt s.board m.place).price : Int) * l.getD (m.company - 1) 0) = (s.table.markers.map fun m => m.company).map fun c => Int.ofNat (Vbsgae.priceOf s c) * l.getD (c - 1) 0 := by
  rw [List.map_map]
  refine List.map_congr_left fun m hm => ?_
  show _ = Int.ofNat (Vbsgae.priceOf s m.company) * l.getD (m.company - 1) 0
  rw [markerOf_price T hm]
  rfl
 rw [e1, sub_sum (L := (List.range 8).map fun c => c + 1) T.nd (by decide)]
 ·match l, hl with
  | [a, b, c, d, e, f, g, h], _ => rfl
 ·intro c hc
  obtain ⟨m, hm, rfl⟩ := List.mem_map.mp hc
  have := T.co m hm
  exact List.mem_map.mpr ⟨m.company - 1, List.mem_range.mpr (by omega), by omega⟩
 ·intro c _ hn
  have : Vbsgae.priceOf s c = 0 := by
   unfold Vbsgae.priceOf
   cases e : Vbsgae.markerOf s.table c with
   | none => rfl
   | some m =>
    obtain ⟨h1, h2⟩ := markerOf_some e
    exact absurd (List.mem_map.mpr ⟨m, h1, h2⟩) hn
  rw [this]
  simp
theorem TInv.same {b : Board} {t : Table} (T : TInv b t) {x y : Marker} (hx : x ∈ t.markers) (hy : y ∈ t.markers) (h : x.company = y.company) : x = y := by
 have h1 := T.markerOf hx
 rw [h, T.markerOf hy] at h1
 exact (Option.some.inj h1).symm
theorem order_at {s : State} (T : TInv s.board s.table) {i : Nat} {x : Marker} (hx : x ∈ s.table.markers) (h : (order s)[i]? = some x.company) : (inOrder s.board s.table.markers)[i]? = some x := by
 unfold order at h
 rw [List.getElem?_map] at h
 cases e : (inOrder s.board s.table.markers)[i]? with
 | none => rw [e] at h; cases h
 | some y =>
  rw [e] at h
  have hc : y.company = x.company := Option.some.inj h
  have hy : y ∈ s.table.markers := (inOrder_perm s.board _).mem_iff.mp (List.mem_of_getElem? e)
  rw [T.same hy hx hc]
theorem first_eq {s : State} (T : TInv s.board s.table) {i j : Nat} {x y : Marker} (hx : x ∈ s.table.markers) (hy : y ∈ s.table.markers) (hi : (order s)[i]? = some x.company) (hj : (order s)[j]? = some y.company) :
  before s.board x y = decide (i < j) := by
 have h1 := order_at T hx hi
 have h2 := order_at T hy hj
 have hs := inOrder_sorted (b := s.board) T.ne
 rw [List.pairwise_iff_getElem] at hs
 obtain ⟨a1, a2⟩ := List.getElem?_eq_some_iff.mp h1
 obtain ⟨b1, b2⟩ := List.getElem?_eq_some_iff.mp h2
 by_cases h : i < j
 ·rw [decide_eq_true h]
  have := hs i j a1 b1 h
  rw [a2, b2] at this
  exact this
 ·rw [decide_eq_false h]
  cases hb : before s.board x y with
  | false => rfl
  | true =>
   exfalso
   rcases Nat.lt_or_ge j i with hlt | hge
   ·have := hs j i b1 a1 hlt
    rw [a2, b2] at this
    exact before_asymm hb this
   ·have : i = j := by omega
    subst this
    rw [h1] at h2
    cases h2
    exact before_irrefl hb
theorem order_mem {s : State} {c : Nat} : c ∈ order s ↔ ∃ m ∈ s.table.markers, m.company = c := by
 unfold order
 rw [List.mem_map]
 constructor
 ·rintro ⟨m, hm, rfl⟩
  exact ⟨m, (inOrder_perm s.board _).mem_iff.mp hm, rfl⟩
 ·rintro ⟨m, hm, rfl⟩
  exact ⟨m, (inOrder_perm s.board _).mem_iff.mpr hm, rfl⟩
theorem order_len (s : State) : (order s).length = s.table.markers.length := by
 unfold order
 rw [List.length_map]
 exact (inOrder_perm s.board _).length_eq
theorem order_nodup {s : State} (T : TInv s.board s.table) : (order s).Nodup := by
 unfold order
 exact ((inOrder_perm s.board _).map _).nodup_iff.mpr T.nd
theorem distinct_iff : ∀ l : List Int, distinct l = true ↔ l.Nodup
 | [] => by simp [distinct]
 | x :: r => by
  show (!r.contains x && distinct r) = true ↔ _
  rw [Bool.and_eq_true, distinct_iff r, List.nodup_cons]
  simp
theorem nodup_subZ : ∀ (l L : List Int), l.Nodup → (∀ x ∈ l, x ∈ L) → l.length ≤ L.length
 | [], L, _, _ => Nat.zero_le _
 | a :: r, L, hn, hs => by
  have hn' := List.nodup_cons.mp hn
  have ha := hs a (.head _)
  have ih := nodup_subZ r (L.erase a) hn'.2 fun x hx => (List.mem_erase_of_ne (fun e => hn'.1 (by rw [← e]; exact hx))).mpr (hs x (.tail _ hx))
  rw [List.length_erase_of_mem ha] at ih
  have : 0 < L.length := List.length_pos_of_mem ha
  rw [List.length_cons]
  omega
theorem distinct_len {l f : List Int} (hf : f.Nodup) (hm : ∀ x, x ∈ f ↔ x ∈ l) : distinct l = !decide ((f.length : Int) < (l.length : Int)) := by
 have h1 := nodup_subZ f l hf fun x hx => (hm x).mp hx
 by_cases hd : l.Nodup
 ·have h2 := nodup_subZ l f hd fun x hx => (hm x).mpr hx
  rw [(distinct_iff l).mpr hd, decide_eq_false (by omega)]
  rfl
 ·have hlt : f.length < l.length := by
   rcases Nat.lt_or_ge f.length l.length with h | h
   ·exact h
   ·exfalso
    apply hd
    clear h1 hd
    have key : ∀ (l f : List Int), f.Nodup → (∀ x, x ∈ f → x ∈ l) → l.length ≤ f.length → l.Nodup := by
     intro l
     induction l with
     | nil => intros; exact .nil
     | cons a r ih =>
      intro f hf hm h
      have har : a ∉ r := by
       intro har
       have := nodup_subZ f r hf fun x hx => by
        rcases List.mem_cons.mp (hm x hx) with rfl | h
        ·exact har
        ·exact h
       rw [List.length_cons] at h
       omega
      refine List.nodup_cons.mpr ⟨har, ?_⟩
      by_cases haf : a ∈ f
      ·refine ih (f.erase a) (hf.erase a) (fun x hx => ?_) ?_
       ·have hxa : x ≠ a := fun e => by subst e; exact (List.Nodup.not_mem_erase hf) hx
        rcases List.mem_cons.mp (hm x (List.mem_of_mem_erase hx)) with e | h
        ·exact absurd e hxa
        ·exact h
       ·rw [List.length_erase_of_mem haf]
        rw [List.length_cons] at h
        omega
      ·have := nodup_subZ f r hf fun x hx => by
        rcases List.mem_cons.mp (hm x hx) with rfl | h
        ·exact absurd hx haf
        ·exact h
       rw [List.length_cons] at h
       omega
    exact key l f hf (fun x hx => (hm x).mp hx) h
  rw [decide_eq_true (by omega)]
  cases hq : distinct l with
  | false => rfl
  | true => exact absurd ((distinct_iff l).mp hq) hd
theorem adj_go {b : Board} {p q : Place} (h : closes b p = false) : adj b p q = true ↔ ∃ m, (m = 1 ∨ m = 2 ∨ m = 3 ∨ m = 4) ∧ go b p [m] = q := by
 unfold adj
 rw [h]
 simp only [Bool.not_false, Bool.true_and, List.any_eq_true]
 have e : ∀ m, go b p [m] = move b p m := fun m => by
  show (if closes b p = true then p else go b (move b p m) []) = _
  rw [h]
  rfl
 constructor
 ·rintro ⟨m, hm, hq⟩
  refine ⟨m, by simpa using hm, ?_⟩
  rw [e]
  simpa using hq
 ·rintro ⟨m, hm, hq⟩
  refine ⟨m, by simpa using hm, ?_⟩
  rw [e] at hq
  simpa using hq
theorem adj_closed {b : Board} {p q : Place} (h : closes b p = true) : adj b p q = false := by
 unfold adj
 rw [h]
 rfl
theorem fresh_iff {b : Board} {es ks : List Place} (hsub : ∀ p ∈ es, p ∈ ks) {q : Place} (hq : q ∉ ks) : (∃ p ∈ es, ∃ m, (m = 1 ∨ m = 2 ∨ m = 3 ∨ m = 4) ∧ go b p [m] = q) ↔ ∃ p ∈ es, adj b p q = true := by
 constructor
 ·rintro ⟨p, hp, m, hm, e⟩
  cases hc : closes b p with
  | true =>
   rw [go_closed hc] at e
   subst e
   exact absurd (hsub p hp) hq
  | false => exact ⟨p, hp, (adj_go hc).mpr ⟨m, hm, e⟩⟩
 ·rintro ⟨p, hp, ha⟩
  cases hc : closes b p with
  | true => rw [adj_closed hc] at ha; cases ha
  | false =>
   obtain ⟨m, hm, e⟩ := (adj_go hc).mp ha
   exact ⟨p, hp, m, hm, e⟩
structure Spread (b : Board) (p : Place) (k : Nat) (es ks : List Place) : Prop where
 now : ∀ x, x ∈ es ↔ Far b p k x
 seen : ∀ x, x ∈ ks ↔ ∃ j, j ≤ k ∧ Far b p j x
theorem Spread.start {b : Board} {p : Place} : Spread b p 0 [p] [p] :=
 ⟨fun x => by rw [List.mem_singleton, Far.zero], fun x => by
  rw [List.mem_singleton]
  constructor
  ·rintro rfl
   exact ⟨0, Nat.le_refl _, Far.zero.mpr rfl⟩
  ·rintro ⟨j, hj, h⟩
   have : j = 0 := by omega
   subst this
   exact Far.zero.mp h⟩
theorem Spread.next {b : Board} {p : Place} {k : Nat} {es ks fs ks' : List Place} (S : Spread b p k es ks) (hp : has b p = true)
  (hf : ∀ x, x ∈ fs ↔ x ∉ ks ∧ ∃ e ∈ es, ∃ m, (m = 1 ∨ m = 2 ∨ m = 3 ∨ m = 4) ∧ go b e [m] = x) (hk : ∀ x, x ∈ ks' ↔ x ∈ ks ∨ x ∈ fs) : Spread b p (k + 1) fs ks' := by
 have hsub : ∀ x ∈ es, x ∈ ks := fun x hx => (S.seen x).mpr ⟨k, Nat.le_refl _, (S.now x).mp hx⟩
 have hn : ∀ x, x ∈ fs ↔ Far b p (k + 1) x := by
  intro x
  rw [hf]
  constructor
  ·rintro ⟨h1, h2⟩
   obtain ⟨e, he, ha⟩ := (fresh_iff hsub h1).mp h2
   have w := (S.now e).mp he
   refine ⟨.snoc w.1 ha, fun m hm wm => h1 ((S.seen x).mpr ?_)⟩
   obtain ⟨j, hj, fj⟩ := wm.far
   exact ⟨j, by omega, fj⟩
  ·intro h
   have hnk : x ∉ ks := fun hx => by
    obtain ⟨j, hj, fj⟩ := (S.seen x).mp hx
    have := fj.unique h
    omega
   obtain ⟨r, hr, ha⟩ := h.prev
   exact ⟨hnk, (fresh_iff hsub hnk).mpr ⟨r, (S.now r).mpr hr, ha⟩⟩
 refine ⟨hn, fun x => ?_⟩
 rw [hk, S.seen, hn]
 constructor
 ·rintro (⟨j, hj, h⟩ | h)
  ·exact ⟨j, by omega, h⟩
  ·exact ⟨k + 1, Nat.le_refl _, h⟩
 ·rintro ⟨j, hj, h⟩
  by_cases e : j = k + 1
  ·subst e; exact .inr h
  ·exact .inl ⟨j, by omega, h⟩
theorem Spread.found {b : Board} {p q : Place} {k : Nat} {es ks : List Place} (S : Spread b p k es ks) (hp : has b p = true) (h : q ∈ es) : steps b p q = some k := (steps_some hp k).mpr ((S.now q).mp h)
theorem Spread.lt {b : Board} {p q : Place} {k : Nat} {es ks : List Place} (S : Spread b p k es ks) (hp : has b p = true) (h : q ∈ es) : k < (places b).length := ((S.now q).mp h).lt hp
theorem Spread.none {b : Board} {p q : Place} {k : Nat} {ks : List Place} (S : Spread b p k [] ks) (hp : has b p = true) (h : ∀ j, j < k → ¬ Far b p j q) : steps b p q = none := by
 cases e : steps b p q with
 | none => rfl
 | some n =>
  exfalso
  have f := (steps_some hp n).mp e
  have hn : k ≤ n := by
   rcases Nat.lt_or_ge n k with h' | h'
   ·exact absurd f (h n h')
   ·exact h'
  have : ∀ i x, Far b p (k + i) x → ∃ y, Far b p k y := by
   intro i
   induction i with
   | zero => exact fun x h => ⟨x, h⟩
   | succ i ih =>
    intro x h
    obtain ⟨r, hr, _⟩ := Far.prev (n := k + i) h
    exact ih r hr
  obtain ⟨y, hy⟩ := this (n - k) q (by rw [show k + (n - k) = n by omega]; exact f)
  have := (S.now y).mpr hy
  cases this
theorem rowOf_eq {back : Board} {ws : List (List Nat)} (hb : back.length ≤ 12) : rowOf back ws =
  if back.length = 12 ∨ 20 < ws.length then none else match cellsOf ws with
   | none => none
   | some row => if rising (row.map fun c => c.price) = false then none else if (match back with | [] => true | a :: _ => under a row) = false then none else some row := by
 unfold rowOf
 cases e : cellsOf ws with
 | none => simp
 | some row =>
  have hl := cellsOf_len e
  dsimp only
  unfold fits
  by_cases h1 : back.length = 12 ∨ 20 < ws.length
  ·rw [if_pos h1, if_neg]
   intro h
   rw [Bool.and_eq_true, Bool.and_eq_true, decide_eq_true_iff, decide_eq_true_iff] at h
   have := h.1
   have := h.2.1
   unfold COLS ROWS at *
   omega
  ·rw [if_neg h1]
   have a1 : decide (row.length ≤ COLS) = true := decide_eq_true (by unfold COLS; omega)
   have a2 : decide (back.length < ROWS) = true := decide_eq_true (by unfold ROWS; omega)
   rw [a1, a2, Bool.true_and, Bool.true_and]
   cases rising (row.map fun c => c.price) with
   | false => simp
   | true =>
    simp only [Bool.true_and, Bool.true_eq_false, if_false]
    cases back with
    | nil => simp
    | cons a r =>
     dsimp only
     by_cases h : under a row = true
     ·rw [if_pos h, if_neg (by rw [h]; simp)]
     ·rw [if_neg h, if_pos (by simpa using h)]
end Vb
namespace Vb
open Vbsgae
theorem asked_nil {s : State} {f : State × Ans} : asked s [] f = f := rfl
theorem asked_no {s : State} {b : Bool} {x : Int} {r : List (Bool × Int)} {f : State × Ans} (h : b = false) : asked s ((b, x) :: r) f = (s, [x]) := by
 subst h
 rfl
theorem asked_yes {s : State} {b : Bool} {x : Int} {r : List (Bool × Int)} {f : State × Ans} (h : b = true) : asked s ((b, x) :: r) f = asked s r f := by
 subst h
 rfl
theorem asked_cases (s : State) (f : State × Ans) : ∀ l : List (Bool × Int), (∃ x, asked s l f = (s, [x])) ∨ ((∀ p ∈ l, p.1 = true) ∧ asked s l f = f)
 | [] => .inr ⟨fun p h => (by cases h), rfl⟩
 | (b, x) :: r => by
  cases b with
  | false => exact .inl ⟨x, rfl⟩
  | true =>
   rcases asked_cases s f r with ⟨y, h⟩ | ⟨h1, h2⟩
   ·exact .inl ⟨y, h⟩
   ·refine .inr ⟨fun p hp => ?_, h2⟩
    rcases List.mem_cons.mp hp with rfl | hp
    ·rfl
    ·exact h1 p hp
theorem asked_ind {s : State} {f : State × Ans} {l : List (Bool × Int)} {P : State × Ans → Prop} (h1 : ∀ x, P (s, [x])) (h2 : (∀ p ∈ l, p.1 = true) → P f) : P (asked s l f) := by
 rcases asked_cases s f l with ⟨x, h⟩ | ⟨h, e⟩
 ·rw [h]; exact h1 x
 ·rw [e]; exact h2 h
theorem SInv.step {s : State} (S : SInv s) (c : Call) : SInv (Vbsgae.step s c).1 := by
 cases c with
 | load t =>
  refine asked_ind (P := fun x => SInv x.1) (fun _ => S) fun _ => ?_
  split
  ·rename_i h0
   exact SInv.load (s := s) t h0
  ·exact S
 | print => exact S
 | cell r k => exact asked_ind (P := fun x => SInv x.1) (fun _ => S) fun _ => S
 | begin c r k =>
  refine asked_ind (P := fun x => SInv x.1) (fun _ => S) fun h => ?_
  have h1 := h _ (.head _)
  have h2 := h _ (.tail _ (.head _))
  have h3 := h _ (.tail _ (.tail _ (.head _)))
  dsimp only at h1 h2 h3
  rw [Bool.and_eq_true] at h1
  obtain ⟨h1, h4⟩ := h1
  unfold isCompany between at h1
  unfold isPlace at h4
  rw [Bool.and_eq_true, decide_eq_true_iff, decide_eq_true_iff] at h1
  rw [Bool.and_eq_true, Bool.and_eq_true] at h4
  exact S.changed (S.tab.begun (by omega) h4.2.2 (by simpa using h3) (by simpa using h2))
 | sell c n => exact asked_ind (P := fun x => SInv x.1) (fun _ => S) fun _ => S.moved _ _
 | pay c x => exact asked_ind (P := fun x => SInv x.1) (fun _ => S) fun _ => S.moved _ _
 | soldout l => exact asked_ind (P := fun x => SInv x.1) (fun _ => S) fun _ => S.changed (TInv.folded S.tab)
 | moves c l => exact asked_ind (P := fun x => SInv x.1) (fun _ => S) fun _ => S.moved _ _
 | price c => exact asked_ind (P := fun x => SInv x.1) (fun _ => S) fun _ => S
 | place c =>
  refine asked_ind (P := fun x => SInv x.1) (fun _ => S) fun _ => ?_
  split <;> exact S
 | order => exact S
 | stack r k => exact asked_ind (P := fun x => SInv x.1) (fun _ => S) fun _ => S
 | closed => exact S
 | ended => exact S
 | reach r k l => exact asked_ind (P := fun x => SInv x.1) (fun _ => S) fun _ => S
 | same v w => exact asked_ind (P := fun x => SInv x.1) (fun _ => S) fun _ => S
 | steps r k i j =>
  refine asked_ind (P := fun x => SInv x.1) (fun _ => S) fun _ => ?_
  split <;> exact S
 | undo =>
  show SInv (match s.past with | [] => (s, [-7]) | t :: r => ((⟨s.board, t, r⟩ : State), [Int.ofNat r.length])).1
  cases e : s.past with
  | nil => exact S
  | cons t r => exact S.undo e
 | worth l => exact asked_ind (P := fun x => SInv x.1) (fun _ => S) fun _ => S
 | first c d =>
  refine asked_ind (P := fun x => SInv x.1) (fun _ => S) fun _ => ?_
  split <;> exact S
 | size => exact S
theorem printed_len {b : Board} (g : BoardGood b) : (printed b).length ≤ 2412 := by
 have hrow : ∀ r ∈ b, (joined (r.map shownCell) ++ [10]).length ≤ 201 := fun r hr => by
  have G := g.rows r hr
  have h1 := joined_len (r.map shownCell)
  have h2 := sum_le (l := (r.map shownCell).map fun w => w.length + 1) (n := 10) fun x hx => by
   obtain ⟨w, hw, rfl⟩ := List.mem_map.mp hx
   obtain ⟨c, hc, rfl⟩ := List.mem_map.mp hw
   have C := G.cells c hc
   have := decimal_len C.p2
   have := C.len
   unfold shownCell
   rw [List.length_append]
   omega
  have h3 : (joined (r.map shownCell)).length ≤ ((r.map shownCell).map fun w => w.length + 1).length * 10 := Nat.le_trans h1 h2
  rw [List.length_map, List.length_map] at h3
  have := G.len
  rw [List.length_append, List.length_singleton]
  omega
 have : ∀ b : Board, (∀ r ∈ b, (joined (r.map shownCell) ++ [10]).length ≤ 201) → (printed b).length ≤ b.length * 201 := by
  intro b
  induction b with
  | nil => intro _; exact Nat.zero_le _
  | cons r b ih =>
   intro h
   have h1 := h r (.head _)
   have h2 := ih fun x hx => h x (.tail _ hx)
   show ((joined (r.map shownCell) ++ [10]) ++ printed b).length ≤ _
   rw [List.length_append, List.length_cons, Nat.succ_mul]
   omega
 have h := this b hrow
 have := g.len
 omega
theorem counted_len (l : List Nat) : (counted l).length = l.length + 1 := by
 unfold counted Vbsgae.ints
 rw [List.length_cons, List.length_map]
theorem cellAt_len {b : Board} (g : BoardGood b) (p : Place) : (cellAt b p).letters.length ≤ 4 := by
 cases h : has b p with
 | true => exact (cell_good g h).len
 | false =>
  unfold cellAt
  have h' : ¬ p.2 < (b.getD p.1 []).length := by
   unfold has at h
   exact of_decide_eq_false h
  rw [List.getD_eq_getElem?_getD (l := b.getD p.1 []), List.getElem?_eq_none (by omega)]
  exact Nat.zero_le _
theorem step_len {s : State} (S : SInv s) (c : Call) : (Vbsgae.step s c).2.length ≤ 3000 := by
 have one : ∀ x : Int, ([x] : List Int).length ≤ 3000 := fun x => by simp
 cases c with
 | load t =>
  refine asked_ind (P := fun x => x.2.length ≤ 3000) (fun _ => one _) fun _ => ?_
  split <;> exact one _
 | print =>
  show (counted (printed s.board)).length ≤ 3000
  have := printed_len S.good
  rw [counted_len]
  omega
 | cell r k =>
  refine asked_ind (P := fun x => x.2.length ≤ 3000) (fun _ => one _) fun _ => ?_
  show (_ :: counted _).length ≤ 3000
  have := cellAt_len S.good (r.toNat, k.toNat)
  rw [List.length_cons, counted_len]
  omega
 | begin c r k => exact asked_ind (P := fun x => x.2.length ≤ 3000) (fun _ => one _) fun _ => one _
 | sell c n => exact asked_ind (P := fun x => x.2.length ≤ 3000) (fun _ => one _) fun _ => one _
 | pay c x => exact asked_ind (P := fun x => x.2.length ≤ 3000) (fun _ => one _) fun _ => one _
 | soldout l => exact asked_ind (P := fun x => x.2.length ≤ 3000) (fun _ => one _) fun _ => one _
 | moves c l => exact asked_ind (P := fun x => x.2.length ≤ 3000) (fun _ => one _) fun _ => one _
 | price c => exact asked_ind (P := fun x => x.2.length ≤ 3000) (fun _ => one _) fun _ => one _
 | place c =>
  refine asked_ind (P := fun x => x.2.length ≤ 3000) (fun _ => one _) fun _ => ?_
  split
  ·show (Vbsgae.ints [_, _, _]).length ≤ 3000
   simp [Vbsgae.ints]
  ·exact one _
 | order =>
  show (counted (Vbsgae.order s)).length ≤ 3000
  have := S.tab.len
  rw [counted_len, order_len]
  omega
 | stack r k =>
  refine asked_ind (P := fun x => x.2.length ≤ 3000) (fun _ => one _) fun _ => ?_
  show (counted (Vbsgae.stack s (r.toNat, k.toNat))).length ≤ 3000
  have h1 := S.tab.len
  have h2 := List.length_filter_le (fun m : Marker => m.place == (r.toNat, k.toNat)) s.table.markers
  rw [counted_len, stack_eq S.tab, List.length_map]
  omega
 | closed =>
  show (counted s.table.closed).length ≤ 3000
  have := S.tab.clen
  rw [counted_len]
  omega
 | ended => exact one _
 | reach r k l =>
  refine asked_ind (P := fun x => x.2.length ≤ 3000) (fun _ => one _) fun _ => ?_
  show (Vbsgae.ints [_, _]).length ≤ 3000
  simp [Vbsgae.ints]
 | same v w => exact asked_ind (P := fun x => x.2.length ≤ 3000) (fun _ => one _) fun _ => one _
 | steps r k i j =>
  refine asked_ind (P := fun x => x.2.length ≤ 3000) (fun _ => one _) fun _ => ?_
  split
  ·show ([_, _] : List Int).length ≤ 3000
   simp
  ·exact one _
 | undo =>
  show (match s.past with | [] => (s, [-7]) | t :: r => ((⟨s.board, t, r⟩ : State), [Int.ofNat r.length])).2.length ≤ 3000
  cases s.past with
  | nil => exact one _
  | cons t r => exact one _
 | worth l => exact asked_ind (P := fun x => x.2.length ≤ 3000) (fun _ => one _) fun _ => one _
 | first c d =>
  refine asked_ind (P := fun x => x.2.length ≤ 3000) (fun _ => one _) fun _ => ?_
  split <;> exact one _
 | size =>
  show (Vbsgae.ints [_, _, _, _, _]).length ≤ 3000
  simp [Vbsgae.ints]
theorem whole_id (c : List (List Int)) : PyVbsgae.whole c = c := by
 rcases c with _ | ⟨_ | ⟨x | x, r⟩, t⟩ <;> try rfl
 (iterate 21 (rcases x with _ | x; focus ((iterate 6 (all_goals try rfl); all_goals try rcases r with _ | ⟨_, r⟩); iterate 4 (all_goals try rfl); all_goals try rcases t with _ | ⟨_, t⟩))); rfl
theorem calls_eq (l : List Int) : PyVbsgae.calls l = PyFlat.calls PyVbsgae.shape l.length l := by
 unfold PyVbsgae.calls
 cases PyFlat.calls PyVbsgae.shape l.length l with
 | none => rfl
 | some cs =>
  show some (cs.map PyVbsgae.whole) = some cs
  have : cs.map PyVbsgae.whole = cs.map id := List.map_congr_left fun c _ => whole_id c
  rw [this, List.map_id]
theorem asked_some {l : List Int} (h : PyVbsgae.answers_asked l = true) : ∃ cs, PyFlat.calls PyVbsgae.shape l.length l = some cs ∧ cs.length ≤ 200 ∧ (∀ c ∈ cs, VbsgaeNeutral.asked1 c = true) ∧
  PyVbsgae.answers l = PyFlat.told (PyFlat.played VbsgaeNeutral.step VbsgaeNeutral.start cs) := by
 unfold PyVbsgae.answers_asked at h
 unfold PyVbsgae.answers
 rw [calls_eq] at h ⊢
 cases e : PyFlat.calls PyVbsgae.shape l.length l with
 | none => rw [e] at h; cases h
 | some cs =>
  rw [e] at h
  dsimp only at h
  rw [Bool.and_eq_true] at h
  obtain ⟨h1, h2⟩ := h
  unfold VbsgaeNeutral.asked at h2
  rw [Bool.and_eq_true] at h2
  exact ⟨cs, rfl, of_decide_eq_true h1, List.all_eq_true.mp h2.1, rfl⟩
theorem nstep_len {s : State} (S : SInv s) (c : List (List Int)) : (VbsgaeNeutral.step s c).2.length ≤ 3000 := by
 unfold VbsgaeNeutral.step
 split
 ·exact step_len S _
 ·exact Nat.zero_le _
theorem SInv.nstep {s : State} (S : SInv s) (c : List (List Int)) : SInv (VbsgaeNeutral.step s c).1 := by
 unfold VbsgaeNeutral.step
 split
 ·exact S.step _
 ·exact S
theorem readFrom_drop {n : Nat} {back : Board} {ls : List (List Nat)} {k : Nat} {l : List Nat} (h : ls[k]? = some l) : readFrom n back (ls.drop k) = match lineOf back l with
  | none => (back, n)
  | some b => readFrom (n + 1) b (ls.drop (k + 1)) := by
 have hk := (List.getElem?_eq_some_iff.mp h).1
 have e : ls.drop k = l :: ls.drop (k + 1) := by
  rw [List.drop_eq_getElem_cons hk]
  congr 1
  exact (List.getElem?_eq_some_iff.mp h).2
 rw [e]; refine (readFrom_cons n back l _).trans ?_
 cases lineOf back l <;> rfl
end Vb
namespace L2
open PySem PySem.Spec PyProof.Rows
structure Kp (S : List Addr) (H H' : Hp) : Prop where
 kp : ∀ b o, H b = some o → b ∉ S → H' b = some o
 dom : ∀ b, H' b = none → H b = none
 tup : ∀ b xs, H b = some (.tup xs) → H' b = some (.tup xs)
theorem Kp.refl (S : List Addr) (H : Hp) : Kp S H H := ⟨fun _ _ e _ => e, fun _ e => e, fun _ _ e => e⟩
theorem Kp.trans {S : List Addr} {H H1 H2 : Hp} (a : Kp S H H1) (b : Kp S H1 H2) : Kp S H H2 :=
 ⟨fun c o e n => b.kp c o (a.kp c o e n) n, fun c e => a.dom c (b.dom c e), fun c xs e => b.tup c xs (a.tup c xs e)⟩
theorem Kp.mono {S T : List Addr} {H H1 : Hp} (a : Kp S H H1) (h : ∀ x ∈ S, x ∈ T) : Kp T H H1 := ⟨fun c o e n => a.kp c o e fun z => n (h c z), a.dom, a.tup⟩
theorem Kp.any {S : List Addr} {H H1 : Hp} (a : Kp [] H H1) : Kp S H H1 := a.mono fun x h => by cases h
theorem upd_none {H : Hp} {p b : Addr} {o : HO} (h : upd H p o b = none) : b ≠ p ∧ H b = none := by
 unfold upd at h
 split at h
 ·cases h
 ·rename_i hb
  exact ⟨hb, h⟩
theorem Kp.new {S : List Addr} {H : Hp} {p : Addr} {o : HO} (h : H p = none) : Kp S H (upd H p o) :=
 ⟨fun b u e _ => by rw [uN (ne_of_none e h)]; exact e, fun b e => (upd_none e).2, fun b xs e => by rw [uN (ne_of_none e h)]; exact e⟩
theorem Kp.put {S : List Addr} {H : Hp} {p : Addr} {o u : HO} (h : p ∈ S) (hp : H p = some u) (hn : ∀ xs, u ≠ .tup xs) : Kp S H (upd H p o) :=
 ⟨fun b v e n => by rw [uN fun q => n (by rw [q]; exact h)]; exact e, fun b e => (upd_none e).2, fun b xs e => by rw [uN (ne_of e hp fun z => hn xs z.symm)]; exact e⟩
theorem Kp.seq {S : List Addr} {K : W.Frag} {H H' : Hp} {a : Addr} {xs : List V} (e : Kp S H H') (ha : a ∉ S) (h : SqL K H a xs) : SqL K H' a xs := by
 rcases h with (h | ⟨o, h⟩) | h
 ·exact .inl (.inl (e.kp _ _ h ha))
 ·exact .inl (.inr ⟨o, e.kp _ _ h ha⟩)
 ·exact .inr h
theorem Kp.seq0 {K : W.Frag} {H H' : Hp} {a : Addr} {xs : List V} (e : Kp [] H H') (h : SqL K H a xs) : SqL K H' a xs := e.seq (by simp) h
theorem Kp.at_ {H H' : Hp} (e : Kp [] H H') {a : Addr} {o : HO} (h : H a = some o) : H' a = some o := e.kp a o h (by simp)
theorem Kp.seqT {S : List Addr} {K : W.Frag} {H H' : Hp} {a : Addr} {xs : List V} (e : Kp S H H') (ha : a ∉ S) (h : SqT K H a xs) : SqT K H' a xs := by
 rcases h with (h | ⟨o, h⟩) | h
 ·exact .inl (.inl (e.kp _ _ h ha))
 ·exact .inl (.inr ⟨o, e.kp _ _ h ha⟩)
 ·exact .inr h
theorem Kp.made {H H1 : Hp} {x dx C : Addr} (nx : H x = none) (nd : H dx = none) (k : Kp [x] (upd (upd H dx (.own x)) x (.ins C dx [])) H1) : Kp [] H H1 := by
 refine ⟨fun b o e _ => k.kp b o ?_ ?_, fun b e => ?_, fun b xs e => k.tup b xs ?_⟩
 ·rw [uN (ne_of_none e nx), uN (ne_of_none e nd)]; exact e
 ·simp only [List.mem_singleton]; exact ne_of_none e nx
 ·exact (upd_none (upd_none (k.dom b e)).2).2
 ·rw [uN (ne_of_none e nx), uN (ne_of_none e nd)]; exact e
theorem pkeep {α β : Type} {F G : α → β → Prop} : ∀ {l : List α} {m : List β}, Paired F l m → (∀ a b, F a b → G a b) → Paired G l m
 | _, _, .nil, _ => .nil
 | _, _, .cons a t, f => .cons (f _ _ a) (pkeep t f)
theorem pget {α β : Type} {F : α → β → Prop} : ∀ {l : List α} {m : List β} {i : Nat} {b : β}, Paired F l m → m[i]? = some b → ∃ a, l[i]? = some a ∧ F a b
 | _, _, _, _, .nil, h => by simp at h
 | _, _, 0, b, .cons a t, h => ⟨_, rfl, by cases (Option.some.inj h : _ = b); exact a⟩
 | _, _, i + 1, b, .cons a t, h => pget (i := i) t h
theorem plen {α β : Type} {F : α → β → Prop} : ∀ {l : List α} {m : List β}, Paired F l m → l.length = m.length
 | _, _, .nil => rfl
 | _, _, .cons _ t => congrArg (· + 1) (plen t)
theorem papp {α β : Type} {F : α → β → Prop} : ∀ {l l2 : List α} {m m2 : List β}, Paired F l m → Paired F l2 m2 → Paired F (l ++ l2) (m ++ m2)
 | _, _, _, _, .nil, h => h
 | _, _, _, _, .cons a t, h => .cons a (papp t h)
def tCallV (P : Program) (w : World) (K : W.Frag) (mg : Str → Option Value) (base : Heap) (k : Nat) (ps : List Str) (i : Nat) (t : TA) : TE := fun σ H Q =>
 ∃ f fd sp, σ[i]? = some (some (.ref f)) ∧ FnOk P w K mg base CX0 k f fd ps sp ∧ W.keepIn K (.ref f) = true ∧ Binds K fd ps [] ∧ t σ H fun vs H1 => sp vs H1 Q E0
theorem pe_callV {X : Cx} {i k : Nat} {ps : List Str} {x : Str} {p pos : Pos} {e : Expr} {es : List Expr} {t : TA} (hr : Room k X.A) (hN : X.N[i]? = some x) (hv : Vis X.env.scope x) (ha : PA X (e :: es) t)
  (hd : (x == ("__debug__" : Str)) = false := by decide) (hcd : (x == ("__classdict__" : Str)) = false := by decide)
  (he : starEach (e :: es) X.env = (false, eval e X.env) :: starEach es X.env := by rfl) (hpl : (backTo pos (starEach es X.env)).any (·.1) = false := by rfl) :
  PE X (.Call (.Name x p) (e :: es) [] pos) (tCallV X.prog X.w X.K X.mg X.base k ps i t) := by
 intro pins s σ H Q I h
 obtain ⟨f, fd, sp, hi, F, hk, hb, q⟩ := h
 refine wpAny_Call_Name_kw (thn (pe_var hN hv hd hcd pins s σ H (fun v H1 => v = .ref f ∧ H1 = H) I ⟨_, hi, rfl, rfl⟩) fun u s0 ⟨v, H0, I0, rv, ev, eH⟩ => ?_)
 subst ev eH
 obtain rfl : u = Value.ref f := rv
 refine W.callWith_K (h₀ := X.base) I0.ok.mod.kin hk (thn (ha pos pins s0 σ H0 _ I0 q) fun us s1 ⟨vs, H1, I1, r, q1⟩ => ⟨I1.kIn, ?_⟩) he hpl
 exact run_fn (dvs := []) F hr hb .nil pass0 I1 r (by rw [List.append_nil]; exact q1)
def rInD (K : W.Frag) : R2 := fun x y H Q => ∃ p xs d ds, y = .ref p ∧ SqL K H p xs ∧ Dp K H x d ∧ DpAll K H xs ds ∧ d.canLay0 = true ∧ PyData.canLayAll0 ds = true ∧ d.depth ≤ 64 ∧ Q (.bl (ds.any fun e => PyData.eqv e d)) H
theorem op_inD {X : Cx} (hu : X.A.units + 66 < cLine) : OpR X (compareOp .In) (rInD X.K) := by
 intro pins s σ H x y v u Q I rx ry h
 obtain ⟨p, xs, d, ds, rfl, hs, hd, hds, cd, cds, dp, q⟩ := h
 cases ry
 obtain ⟨as, r1⟩ := Dp.reads I d x v hd rx
 obtain ⟨bs, r2⟩ := Dp.reads I (.list ds) (.ref p) (.ref p) (.lst hs hds) rfl
 have hm : min (PyData.depthAll ds) d.depth ≤ d.depth := Nat.min_le_right _ _
 exact SeqAt.in_list_reads r2 r1 cds cd (by omega) ⟨.bl _, H, I, rfl, q⟩
theorem Room.units66 {k : Nat} {A : Around} (r : Room k A) : A.units + 66 < cLine := by
 have := r.un
 omega
def tDispT (tk tv : TE) : TE := fun σ H Q => ∀ p, H p = none → tk σ (upd H p (.dT [])) fun x H1 => tv σ H1 fun y H2 => H2 p = some (.dT []) ∧ ∃ (k : List Key) (b : Addr), x = .ref b ∧ H2 b = some (.tup (k.map kV)) ∧ Q (.ref p) (upd H2 p (.dT [(k, y)]))
theorem pe_dispT {X : Cx} {pos : Pos} {k v : Expr} {tk tv : TE} (hu : X.A.units + 1 < cLine) (hk : PE X k tk) (hv : PE X v tv) : PE X (.Dict [some k] [v] pos) (tDispT tk tv) := by
 intro pins s σ H Q I q
 have hn := I.hok.fresh (Nat.le_refl s.heap.objs.size)
 have I1 := I.laid (a := s.heap.objs.size) (o := .dT []) (h' := s.heap.push { cls := .type "dict", data := .dict #[] }) (t' := s.toks) (fun _ _ q => Heap.get?_push_of_some _ q) (Nat.le_refl _) (dt_empty s.heap I.big)
 refine wpAny_Dict_any rfl rfl (by simp) (by show 1 ≤ 15; decide) ?_
 refine pairTrees_cons_walk (thn (hk pins _ σ _ _ I1 (q _ hn)) fun u s1 ⟨x, H1, I2, rx, q1⟩ => thn (hv pins s1 σ H1 _ I2 q1) fun w2 s2 ⟨y, H2, I3, ry, e, ks, b, ex, eb, q2⟩ => ?_)
 refine pairTrees_nil_walk ?_
 subst ex
 cases (show u = Value.ref b from rx)
 unfold storeAll
 rw [List.forIn_cons]
 obtain ⟨z, hd, xs, rel, dd⟩ := dt_of I3.hok e
 cases rel
 refine wpAny_bind (wpAny_bind (wpAny_dictSet_heap (hsz := Nat.zero_le _) (knd := tupleKind (mixKind X.prog X.w)) (by show X.A.units < cLine; omega) (key_of I3.hok eb) dd fun h' dd' hs => wpAny_pure ?_))
 dsimp only
 rw [List.forIn_nil]
 refine wpAny_pure ?_
 obtain ⟨qo, es, ep, hq, h2, h3, h4, _, h5⟩ := dd'
 refine ⟨.ref s.heap.objs.size, _, d_write (ob := .dT [(ks, y)]) I3 (by rw [e]; exact True.intro) hs ⟨qo, hq⟩ ⟨by show 1 ≤ sizeLine; decide, hd, storedH [] ks b w2, ?_, qo, es, ep, hq, h2, h3, h4, h5⟩, rfl, q2⟩
 have hne : b ≠ s.heap.objs.size := ne_of eb e (fun z => nomatch z)
 refine Paired.cons ⟨rfl, ?_, ry⟩ .nil
 show upd H2 s.heap.objs.size _ b = _
 rw [uN hne]
 exact eb
theorem step_dedup_mem {l : List Int} {x y : Int} : y ∈ step_dedup l x ↔ y ∈ l ∨ y = x := by
 unfold step_dedup
 split
 ·rename_i h
  constructor
  ·exact .inl
  ·rintro (h' | rfl)
   ·exact h'
   ·simpa using h
 ·simp
theorem step_dedup_nodup {l : List Int} {x : Int} (h : l.Nodup) : (step_dedup l x).Nodup := by
 unfold step_dedup
 split
 ·exact h
 ·rename_i hx
  rw [List.nodup_append]
  refine ⟨h, by simp, fun a ha b hb e => ?_⟩
  have : b = x := by simpa using hb
  subst this
  subst e
  exact hx (by simpa using ha)
theorem firstMet_facts (ns : List Int) : (firstMet (fun i => ns.getD i 0) ns.length).Nodup ∧ ∀ x, x ∈ firstMet (fun i => ns.getD i 0) ns.length ↔ x ∈ ns := by
 have key : ∀ k, k ≤ ns.length → (firstMet (fun i => ns.getD i 0) k).Nodup ∧ ∀ x, x ∈ firstMet (fun i => ns.getD i 0) k ↔ x ∈ ns.take k := by
  intro k
  induction k with
  | zero => intro _; exact ⟨by rw [firstMet_zero]; exact .nil, fun x => by rw [firstMet_zero]; simp⟩
  | succ k ih =>
   intro hk
   obtain ⟨h1, h2⟩ := ih (by omega)
   rw [firstMet_succ]
   refine ⟨step_dedup_nodup h1, fun x => ?_⟩
   have e : ns.take (k + 1) = ns.take k ++ [ns.getD k 0] := by
    rw [List.take_add_one, List.getElem?_eq_getElem (by omega), List.getD_eq_getElem?_getD, List.getElem?_eq_getElem (by omega)]
    rfl
   rw [step_dedup_mem, h2, e, List.mem_append, List.mem_singleton]
 have := key ns.length (Nat.le_refl _)
 rw [List.take_length] at this
 exact this
def rSetOf (K : W.Frag) : List V → Hp → VK → Prop := fun vs H Q => ∃ (a : Addr) (ns : List Int), vs = [V.ref a] ∧ SqL K H a (ns.map V.int) ∧ ns.length ≤ 100 ∧
 ∀ (f : List Int) (p : Addr) (S : Int → Bool), f.Nodup → (∀ x, x ∈ f ↔ x ∈ ns) → f.length ≤ ns.length → H p = none → Q (.ref p) (upd H p (.set S f.length))
theorem cr_set {X : Cx} (hc : X.calm = true) : CallR X (.type "set") (rSetOf X.K) := by
 intro pins s σ H vs us Q I r h
 obtain ⟨a, ns, rfl, hs, hl, q⟩ := h
 obtain ⟨its, rv, hL, _⟩ := I.list hs
 rw [Vals.ref1 r]
 have hi := rv.ints
 have hlen : its.length = ns.length := hi.length
 refine PySem.call_set_list (items := its.toArray) (ns := ns) (I.ok.hd hc) hL.isList (by simpa using hi) (by rw [List.size_toArray, hlen]; unfold scanBound; omega) fun h' tk hS hk => ?_
 have hsz : its.toArray.size = ns.length := by rw [List.size_toArray, hlen]
 rw [hsz] at hS
 obtain ⟨f1, f2⟩ := firstMet_facts ns
 have f3 : (firstMet (fun i => ns.getD i 0) ns.length).length ≤ ns.length := firstMet_length_le _ _
 refine ⟨.ref _, _, I.laid (a := s.heap.objs.size) (o := .set _ (firstMet (fun i => ns.getD i 0) ns.length).length) (t' := tk) (fun b o e => hk b o (Heap.lt_size e) e) (Nat.le_refl _) hS, rfl, q _ _ _ f1 f2 f3 (I.hok.fresh (Nat.le_refl _))⟩
theorem call_lenS {X : Cx} : CallR X (.builtin "len") (fun xs H Q => ∃ a S n, xs = [V.ref a] ∧ H a = some (.set S n) ∧ n ≤ 1000 ∧ Q (.int (n : Nat)) H) := by
 intro pins s σ H vs us Q I r h
 obtain ⟨a, S, n, rfl, hs, hn, q⟩ := h
 rw [Vals.ref1 r]
 obtain ⟨o, es, ep, t, h1, h2, h3, h4, h5, h6, h7, rfl⟩ := (show s.heap.SetOf (intKind X.prog X.w) a S n from I.hok a _ hs)
 exact PySem.call_len_set h1 h2 h3 h7 (by omega) ⟨.int _, H, I.tok _, ⟨_, rfl⟩, q⟩
theorem cr_dict {X : Cx} : CallR X (.type "dict") (fun xs H Q => ∃ a kvs, xs = [V.ref a] ∧ Rd H a (.dK kvs) ∧ ∀ p, H p = none → Q (.ref p) (upd H p (.dK kvs))) := by
 intro pins s σ H vs us Q I r h
 obtain ⟨a, kvs, rfl, hs, q⟩ := h
 rw [Vals.ref1 r]
 exact d_copyOf I hs fun p s' hp I' => ⟨.ref p, _, I', rfl, q p hp⟩
end L2
namespace L2
open PySem PySem.Spec PyProof.Rows
def cloCx (X : Cx) (A' : Around) (N : List Str) (env : Env) (s : Shared) (H : Hp) : Cx where
 prog := X.prog
 w := X.w
 K := X.K
 mg := X.mg
 base := X.base
 A := A'.deeper env
 N := N
 s_0 := s
 H_0 := H
 env := env
 outer := X.stack
 stack := env :: X.stack
 ex := []
 fn := fun _ => false
 calm := true
 pn := []
 xe := fun _ _ => False
section
variable {X : Cx} {pins : List (Addr × Obj)} {σ : St} {H : Hp} {s : Shared}
theorem clo_start {h₁ : Heap} {tk : Nat} (I : Inv X pins σ H s) {A' : Around} (hA : A'.frames = some X.stack) (hh : A'.handled = none) {N : List Str} {env : Env}
  (hk : env.scope.kind = .function) (hg : env.globals = mainGlobals) (hb : env.builtins = builtinsNs) (hl : env.locals = s.heap.objs.size) (hf : env.frame = some env.locals)
  (hc : ∀ x c, env.cells.lookup x = some c → X.env.cells.lookup x = some c)
  (hfree : ∀ x, (env.kindOf x = some .cell ∨ env.kindOf x = some .free) → ∃ c, env.cells.lookup x = some c)
  {m : Str → Option Value} (hns : h₁.Ns env.locals m) (hkp : ∀ b o, s.heap.get? b = some o → h₁.get? b = some o) {σ' : St} (hlen : σ'.length = N.length)
  (hv : ∀ (i : Nat) (x : Str) (v : V), N[i]? = some x → σ'[i]? = some (some v) → Vis env.scope x → ∃ u, RelV v u ∧ Look env h₁ m x u) :
  Inv (cloCx X A' N env s H) [] σ' H { s with heap := h₁, toks := tk } := by
 have noA : ∀ b : Addr, b ∉ (cloCx X A' N env s H).ex := fun b z => absurd (show b ∈ ([] : List Addr) from z) (by simp)
 refine ⟨⟨I.mod, hk, hg, hb, Nat.le_of_eq hl.symm, fun x y c h1 h2 => I.ok.inj x y c (hc x c h1) (hc y c h2), hfree, fun x c h => absurd (show false = true from h) (by simp), fun _ => hh, Around.frames_deeper hA, .inr ⟨rfl, hf⟩, fun b z => absurd z (noA b),
   I.bs, Nat.le_trans I.ok.bsz I.sz, fun b _ _ => noA b, fun b z => absurd z (noA b), I.stack, I.stkFree⟩,
  rfl, I.bare, Un.kept hkp, ⟨m, hns, hv⟩, fun x c h => ?_, ?_, fun x c h => I.freeC x c (hc x c h), fun p hp => absurd (show p ∈ ([] : List (Addr × Obj)) from hp) (by simp), I.hok.kept hkp, hlen⟩
 ·obtain ⟨v, o, ho, hd⟩ := I.cell x c (hc x c h)
  exact ⟨v, o, hkp c o ho, hd⟩
 ·show H env.locals = none
  rw [hl]
  exact I.hok.fresh (Nat.le_refl _)
theorem clo_call {E : Value → Shared → Prop} (I : Inv X pins σ H s) {f : Addr} {fo : Obj} {name qual x : Str} {params : Arguments} {body : List Stmt} {scope : Scope} {cl : List (Str × Addr)} {doc pm cdv ct v : Value}
  (ho : s.heap.get? f = some fo) (hd : fo.data = .func (W.fnX name qual params body scope cl .none .none doc pm none cdv ct)) (hcd : s.heap.CodeRec cdv qual) {A' : Around} (hA : A'.frames = some X.stack) (hh : A'.handled = none)
  (hroom : A'.depth < recursionLimit) (hbind : BindsTo s (W.fnX name qual params body scope cl .none .none doc pm none cdv ct) ⟨[v], []⟩ [(x, v)]) (hcell : ∀ y ∈ scope.names, y.2 ≠ .cell) (hloc : scope.names.lookup x = some .local)
  (hco : scope.isCoroutine = false) (hgen : scope.isGenerator = false) (hk : scope.kind = .function)
  (hc : ∀ y c, cl.lookup y = some c → X.env.cells.lookup y = some c)
  (hfree : ∀ y, (scope.names.lookup y = some .cell ∨ scope.names.lookup y = some .free) → ∃ c, cl.lookup y = some c)
  {N : List Str} {t : TS} {Q : VK} {σ' : St} (hlen : σ'.length = N.length)
  (hv : ∀ (h₁ : Heap), (∀ b o, s.heap.get? b = some o → h₁.get? b = some o) → ∀ (i : Nat) (y : Str) (u : V), N[i]? = some y → σ'[i]? = some (some u) → Vis scope y →
   ∃ u', RelV u u' ∧ Look (W.envX qual scope s.heap.objs.size f cdv cl) h₁ (fun z => ([(x, v)] : List (Str × Value)).reverse.lookup z) y u')
  (hbody : PSs (cloCx X A' N (W.envX qual scope s.heap.objs.size f cdv cl) s H) body t) (ht : t { nx := fun _ H' => Q .non H', rt := Q } σ' H) :
  wpAny (model X.prog X.w) A' (call (.ref f) [v]) (EP X pins σ Q) E s := by
 have key : codeAny (model X.prog X.w) A' (.call (.ref f) ⟨[v], []⟩) (fun r s' => ∃ u, r = .ok (.ret u) ∧ EP X pins σ Q u s') s := by
  refine codeAny_call_def (fd := W.fnX name qual params body scope cl .none .none doc pm none cdv ct) (body := body) (binds := [(x, v)]) hroom ho hd I.nolimit hcd rfl hbind hcell
   (fun y hy => by
    have : y = (x, v) := by simpa using hy
    subst this
    exact hloc) (fun h₁ hns hk₁ => ?_) hco hgen hk
  have J := clo_start (h₁ := h₁) (tk := s.toks + ([(x, v)] : List (Str × Value)).length) I hA hh (N := N) (env := W.envX qual scope s.heap.objs.size f cdv cl) hk rfl rfl rfl rfl hc hfree hns hk₁ hlen (hv h₁ hk₁)
  refine wpAny_mono (hbody [] _ σ' H _ J ht) (fun fl s' hs => ?_) fun e s' hs => hs.elim
  have fin : ∀ {σ2 : St} {H2 : Hp} {y : V} {u : Value}, Inv (cloCx X A' N (W.envX qual scope s.heap.objs.size f cdv cl) s H) [] σ2 H2 s' → RelV y u → Q y H2 → EP X pins σ Q u s' :=
   fun {σ2 H2 y u} J2 r q => ⟨y, H2, I.call' (ch := []) J2.os J2.base J2.hok J2.bare (fun b z => absurd z (by simp)), r, q⟩
  cases fl with
  | ret u =>
   obtain ⟨y, σ2, H2, J2, r, q⟩ := hs
   exact ⟨u, rfl, fin J2 r q⟩
  | next =>
   obtain ⟨σ2, H2, J2, q⟩ := hs
   exact ⟨.none, rfl, fin (y := V.non) J2 rfl q⟩
  | brk =>
   obtain ⟨_, _, _, q⟩ := hs
   exact q.elim
  | cont =>
   obtain ⟨_, _, _, q⟩ := hs
   exact q.elim
 refine wpAny_call (codeAny_mono key fun r s' h => ?_)
 obtain ⟨u, rfl, q⟩ := h
 exact q
theorem Inv.adopt {h' : Heap} {t' : Nat} {D : Addr} {o : HO} (I : Inv X pins σ H s) (fp : FpOk X pins H D) (k : ∀ b u, b ≠ D → s.heap.get? b = some u → h'.get? b = some u) (new : ObjOk X.prog X.w (upd H D o) h' D o) :
  Inv X pins σ (upd H D o) { s with heap := h', toks := t' } := by
 obtain ⟨hn, hL, hF, h1, h2, h3⟩ := fp
 have nD : ∀ b u, H b = some u → b ≠ D := fun b u e z => by rw [z, hn] at e; cases e
 refine I.step (g' := s.gens) (d' := s.drawn) (ch := [D]) (fun b hb => ?_) (fun b u _ _ hc e _ => k b u (fun z => hc (by simp [z])) e) (fun b u _ _ hc e _ => ⟨u.slots, k b u (fun z => hc (by simp [z])) e⟩)
  (fun b u hc _ n => by rw [uN fun z => hc (by simp [z])]; exact n) (fun b u hc e => ⟨u, k b u (fun z => hc (by simp [z])) e⟩) (fun b xs e => by rw [uN (nD b _ e)]; exact e) (fun b u v e => by rw [uN (nD b _ e)]; exact e)
  (fun b ps e => ⟨#[], by rw [uN (nD b _ e), e]; simp⟩) (fun m hm => ?_) (fun b u e => ?_) I.bare
 ·have e : b = D := by simpa using hb
  subst e
  exact ⟨h1, hL, h2, h3⟩
 ·obtain ⟨ob, es, ep, ho, r⟩ := hm
  exact ⟨ob, es, ep, k _ ob (Ne.symm hL) ho, r⟩
 ·by_cases hb : b = D
  ·subst hb
   rw [uS] at e
   cases e
   exact new
  ·rw [uN hb] at e
   refine (I.hok b u e).stay (fun c v hc q => k c v ?_ q) (fun c q => by rw [uN (nD c _ q)]; exact q) fun c xs q => by rw [uN (nD c _ q)]; exact q
   rcases hc with z | z
   ·rw [z]; exact hb
   ·exact nD c _ z
end
def iSh : Nat → Bool := fun _ => false
theorem tupItems_ints : ∀ (i : Nat) {its : List Value} {ns : List Int}, Vals (ns.map V.int) its → tupItems iSh i its = some (ns.map Sum.inl)
 | _, _, [], h => by
  cases h
  rfl
 | i, _, n :: ns, h => by
  cases h with
  | cons r t =>
   obtain ⟨k, rfl⟩ := r
   have ih := tupItems_ints (i + 1) t
   show (if iSh i = true then none else (tupItems iSh (i + 1) _).map (Sum.inl n :: ·)) = _
   rw [ih]
   rfl
theorem lexLt_inl : ∀ l m : List Int, PyProof.Rows.lexLt itemOrd (l.map Sum.inl) (m.map Sum.inl) = decide (l < m)
 | [], [] => by
  rw [decide_eq_false (by simp)]
  rfl
 | [], _ :: _ => by
  rw [decide_eq_true (by simp)]
  rfl
 | _ :: _, [] => by
  rw [decide_eq_false (by simp)]
  rfl
 | x :: r, y :: t => by
  rw [List.map_cons, List.map_cons, lex_cons, lexLt_inl r t]
  show (decide (x < y) || (!decide (y < x) && decide (r < t))) = decide (x :: r < y :: t)
  by_cases h1 : x < y
  ·rw [decide_eq_true h1, decide_eq_true (List.cons_lt_cons_iff.mpr (.inl h1))]
   rfl
  ·rw [decide_eq_false h1]
   by_cases h2 : y < x
   ·rw [decide_eq_true h2, decide_eq_false fun h => (List.cons_lt_cons_iff.mp h).elim h1 fun q => by omega]
    rfl
   ·have : x = y := by omega
    subst this
    rw [decide_eq_false h2]
    by_cases h3 : r < t
    ·rw [decide_eq_true h3, decide_eq_true (List.cons_lt_cons_iff.mpr (.inr ⟨rfl, h3⟩))]
     rfl
    ·rw [decide_eq_false h3, decide_eq_false fun h => (List.cons_lt_cons_iff.mp h).elim h1 fun q => h3 q.2]
     rfl
theorem same_key (l m : List Int) : (!PyProof.Rows.lexLt itemOrd (l.map Sum.inl) (m.map Sum.inl) && !PyProof.Rows.lexLt itemOrd (m.map Sum.inl) (l.map Sum.inl)) = decide (l = m) := by
 rw [lexLt_inl, lexLt_inl]
 by_cases h : l = m
 ·subst h
  simp [List.lt_irrefl]
 ·rw [decide_eq_false h]
  rw [Bool.and_eq_false_iff]
  rcases Decidable.em (l < m) with h1 | h1
  ·left; simp [h1]
  ·right
   have : m < l := by
    rcases Decidable.em (m < l) with h2 | h2
    ·exact h2
    ·exact absurd (List.le_antisymm (List.not_lt.mp h2) (List.not_lt.mp h1)) h
   simp [this]
end L2
namespace L2
open PySem PySem.Spec PyProof.Rows
theorem map_get' {α β : Type} {f : α → β} {l : List α} {i : Nat} {x : α} (h : l[i]? = some x) : (l.map f)[i]? = some (f x) := by rw [List.getElem?_map, h]; rfl
theorem Kp.put_new {S : List Addr} {H H' : Hp} {p : Addr} {o : HO} (e : Kp S H H') (h : H p = none) : Kp S H (upd H' p o) :=
 ⟨fun b u q n => by rw [uN (ne_of_none q h)]; exact e.kp b u q n, fun b q => e.dom b (upd_none q).2, fun b xs q => by rw [uN (ne_of_none q h)]; exact e.tup b xs q⟩
structure SortOut (rk : Int → List Int) (zs zs' : List Int) : Prop where
 perm : zs'.Perm zs
 sorted : zs'.Pairwise fun x y => ¬ (rk y < rk x)
 stable : ∀ c, (zs'.filter fun z => decide (rk z = c)) = zs.filter fun z => decide (rk z = c)
open PyProof.Rows.G in
def PairIs (h : Heap) (rk : Int → List Int) (zs : List Int) (p : Keyed) : Prop := ∃ (a : Addr) (z : Int) (t : Tok), p = (.ref a, .int z t) ∧ tupKeyC h iSh (.ref a) = some ((rk z).map Sum.inl)
open PyProof.Rows.G in
theorem sortOut_of {h : Heap} {rk : Int → List Int} {zs : List Int} {arr prs : Array Keyed} (hp : ∀ p ∈ prs.toList, PairIs h rk zs p) (he : prs.toList.map (fun p => numOf p.2) = zs) (h1 : arr.Perm prs) (h2 : SortedToK (tupKindC h iSh) arr arr.size)
  (h3 : Stable (tupKindC h iSh) arr prs) : SortOut rk zs (arr.toList.map fun p => numOf p.2) := by
 have hl : arr.toList.Perm prs.toList := Array.perm_iff_toList_perm.mp h1
 have ha : ∀ p ∈ arr.toList, PairIs h rk zs p := fun p hm => hp p (hl.mem_iff.mp hm)
 refine ⟨by rw [← he]; exact hl.map _, ?_, fun c => ?_⟩
 ·rw [List.pairwise_map, List.pairwise_iff_getElem]
  intro i j hi hj hij
  have hi' : i < arr.size := by simpa using hi
  have hj' : j < arr.size := by simpa using hj
  have q := h2 i j (Nat.le_of_lt hij) hj'
  have kk : ∀ k (hk : k < arr.size), KK (tupKindC h iSh) arr k = (rk (numOf (arr.toList[k]'(by simpa using hk)).2)).map Sum.inl := fun k hk => by
   obtain ⟨a, z, t, e, kz⟩ := ha (arr.toList[k]'(by simpa using hk)) (List.getElem_mem _)
   have e2 : arr[k]? = some (arr.toList[k]'(by simpa using hk)) := by rw [← Array.getElem?_toList, List.getElem?_eq_getElem (by simpa using hk)]
   unfold KK
   rw [e2, e]
   show (tupKeyC h iSh (.ref a)).getD _ = _
   rw [kz]
   rfl
  rw [kk i hi', kk j hj'] at q
  have q' : PyProof.Rows.lexLt itemOrd ((rk (numOf (arr.toList[j]'(by simpa using hj')).2)).map Sum.inl) ((rk (numOf (arr.toList[i]'(by simpa using hi')).2)).map Sum.inl) = false := q
  rw [lexLt_inl] at q'
  exact of_decide_eq_false q'
 ·have row : ∀ l : List Keyed, (∀ p ∈ l, PairIs h rk zs p) → (l.map fun p => numOf p.2).filter (fun z => decide (rk z = c)) = (PyProof.Rows.rowOf (tupKindC h iSh) (c.map Sum.inl) l).map fun p => numOf p.2 := fun l hl' => by
   rw [List.filter_map]
   congr 1
   unfold PyProof.Rows.rowOf
   refine List.filter_congr fun p hm => ?_
   obtain ⟨a, z, t, rfl, kz⟩ := hl' p hm
   show decide (rk z = c) = sameKey (tupKindC h iSh) (c.map Sum.inl) (.ref a, .int z t)
   unfold sameKey
   rw [show (tupKindC h iSh).keyOf ((Value.ref a, Value.int z t) : Keyed).1 = some ((rk z).map Sum.inl) from kz]
   exact (same_key _ _).symm
  have t := h3 (c.map Sum.inl)
  rw [row _ ha, ← he, row _ hp, t]
open PyProof.Rows.G in
theorem vals_pairs {h : Heap} {rk : Int → List Int} {zs : List Int} : ∀ l : List Keyed, (∀ p ∈ l, PairIs h rk zs p) → Vals ((l.map fun p => numOf p.2).map V.int) (l.map Prod.snd)
 | [], _ => .nil
 | p :: l, hp => by
  obtain ⟨a, z, t, rfl, _⟩ := hp p (.head _)
  exact .cons ⟨t, rfl⟩ (vals_pairs l fun q hq => hp q (.tail _ hq))
theorem tupsOf_ts {prog : Program} {w : World} {H : Hp} {h : Heap} {rk : Int → List Int} (ok : HOk prog w H h) : ∀ {ts : List Addr} {zs : List Int}, Paired (fun a z => H a = some (.tup ((rk z).map V.int))) ts zs → (∀ z ∈ zs, rk z ≠ []) → ∃ fs, TupsOf h iSh (ts.map Value.ref) fs
 | _, _, .nil, _ => ⟨[], .nil⟩
 | a :: ts, z :: zs, .cons ha p, hn => by
  obtain ⟨fs, q⟩ := tupsOf_ts ok p fun y hy => hn y (.tail _ hy)
  obtain ⟨_, tis, rt, o, q1, q2, n, q3⟩ := (show ObjOk prog w H h a (.tup ((rk z).map V.int)) from ok a _ ha)
  have hz := hn z (.head _)
  cases e : rk z with
  | nil => exact absurd e hz
  | cons k ks =>
   rw [e, List.map_cons] at rt
   cases rt with
   | cons r0 rs =>
    obtain ⟨t, rfl⟩ := r0
    exact ⟨_ :: fs, .cons ⟨a, o, _, n, rfl, q1, q2, q3, rfl, fun _ => ⟨k, t, rfl⟩, fun x => nomatch x⟩ q⟩
section
variable {X : Cx} {pins : List (Addr × Obj)} {σ : St} {H : Hp} {s : Shared}
open PyProof.Rows.G in
theorem sorted_run {pl f : Addr} {kvs : List (Key × V)} {zs : List Int} {rk : Int → List Int} {Q : VK} (hcalm : X.calm = true) (I : Inv X pins σ H s) (hpl : H pl = some (.dK kvs)) (hz : kvs.map (·.1) = zs.map Sum.inl) (hne : ∀ z ∈ zs, rk z ≠ []) (hl : zs.length ≤ 100)
  (turn : ∀ (pins' : List (Addr × Obj)) (s' : Shared) (H' : Hp) (z : Int) (v : Value), Inv X pins' σ H' s' → (∀ p ∈ pins, p ∈ pins') → Kp [] H H' → RelV (.int z) v → z ∈ zs →
   wpAny (model X.prog X.w) X.A.in1.in1 (call (.ref f) [v]) (EP X pins' σ fun u H'' => ∃ p, u = .ref p ∧ H'' p = some (.tup ((rk z).map V.int)) ∧ Kp [] H' H'') (fun _ _ => False) s')
  (h : ∀ (zs' : List Int) (H' : Hp) (q : Addr), SortOut rk zs zs' → H' q = some (.lst (zs'.map V.int)) → Kp [] H H' → H q = none → Q (.ref q) H') :
  wpAny (model X.prog X.w) X.A (call (.builtin "sorted") [.ref pl] [(Str.ofString "key", .ref f)]) (EP X pins σ Q) X.xe s := by
 have hh : X.A.handled = none := I.ok.hd hcalm
 obtain ⟨z0, hd, vs, rel, dd⟩ := dk_of I.hok hpl
 obtain ⟨ep, hat⟩ := dd.dictAt
 have hvl : vs.length = zs.length := by
  have := congrArg List.length hz
  rw [List.length_map, List.length_map] at this
  rw [← rel.length, this]
 have hL : zs.length ≤ sizeLine := by rw [sizeLine_eq]; omega
 refine call_function_entry_kw kind_sorted plain_sorted entry_sorted (ksk_s1 _ _) ?_
 unfold Builtin.«sorted»
 refine wpAny_bind (m := checkCount "sorted" 1 1 _) (wpAny_pure ?_)
 refine wpAny_bind (W.kdu_collect (A := X.A.in1) (W.kdl_dict (knd := mixKind X.prog X.w) (kvs := vs) (ep := ep) hd) hh hat (by rw [hvl]; exact hL) fun h1 tk1 acc hk1 hacc => ?_)
 have I1 : Inv X pins σ H { s with heap := h1, toks := tk1 } := I.kept hk1
 have hkeys : Vals (zs.map V.int) acc.toList := by
  have hlen : acc.toList.length = zs.length := by rw [Array.length_toList, hacc.1, hvl]
  have key : ∀ (j : Nat) (v : Value) (z : Int), acc.toList[j]? = some v → zs[j]? = some z → RelV (.int z) v := fun j v z e1 e2 => by
   obtain ⟨k, x, e3, e4⟩ := hacc.2 j v (by rw [← Array.getElem?_toList]; exact e1)
   have e5 : (vs.map (·.1))[j]? = some k := by rw [List.getElem?_map, e3]; rfl
   rw [← rel.keys, hz, List.getElem?_map, e2] at e5
   have e6 : Sum.inl z = k := Option.some.inj e5
   subst e6
   exact relV_key (k := Sum.inl z) e4
  have build : ∀ (l : List Int) (us : List Value), us.length = l.length → (∀ (j : Nat) (v : Value) (z : Int), us[j]? = some v → l[j]? = some z → RelV (.int z) v) → Vals (l.map V.int) us := by
   intro l
   induction l with
   | nil =>
    intro us hu _
    cases us with
    | nil => exact .nil
    | cons a b => cases hu
   | cons z l ih =>
    intro us hu hk
    cases us with
    | nil => cases hu
    | cons u us => exact .cons (hk 0 u z rfl rfl) (ih us (by simpa using hu) fun j v y e1 e2 => hk (j + 1) v y e1 e2)
  exact build zs acc.toList hlen key
 generalize hvs : acc.toList = its at hkeys
 have hil : its.length = zs.length := by have := hkeys.length; rw [List.length_map] at this; exact this.symm
 refine wpAny_bind (wpAny_newList ?_ (by rw [hil]; exact hL))
 have fpD : FpOk X pins H h1.objs.size := I1.fpOk (b := h1.objs.size) (Nat.le_refl _) (I1.hok.fresh (Nat.le_refl _))
 have hoD : (h1.push (seqObj "list" its.toArray 0)).get? h1.objs.size = some (seqObj "list" its.toArray 0) := Heap.get?_push_size _ rfl
 have IA : Inv X pins σ H { s with heap := h1.push (seqObj "list" its.toArray 0), toks := tk1 } := I1.kept (t' := tk1) fun b u e => Heap.get?_push_of_some _ e
 refine wpAny_bind (wpAny_holding (wpAny_call_entry_kw slot_list_sort ⟨_, hoD, rfl⟩ entry_list_sort ?body (ksk_l1 _ _)))
 show wpAny (model X.prog X.w) X.A.in1.in1 (Builtin.«list.sort» ⟨[.ref h1.objs.size], [(Str.ofString "key", .ref f)]⟩) _ _ _
 rw [ksk_t1]
 unfold ksk_tree
 refine wpAny_bind (listItems_at hoD rfl ?_)
 refine wpAny_bind (listUpdate_at hoD rfl ?_ (by rw [List.size_toArray, hil]; exact hL) (Nat.zero_le _))
 have sB := Heap.SameBut.update (h1.push (seqObj "list" its.toArray 0)) h1.objs.size (Obj.mapSeq fun _ => (#[] : Array Value))
 obtain ⟨e1, hoB⟩ : ∃ e1, ((h1.push (seqObj "list" its.toArray 0)).update h1.objs.size (Obj.mapSeq fun _ => (#[] : Array Value))).get? h1.objs.size = some (seqObj "list" #[] e1) := ⟨_, get?_update_seq hoD fun _ => #[]⟩
 have fpA : FpOk X pins H h1.objs.size := fpD
 have IB : Inv X pins σ H { s with heap := (h1.push (seqObj "list" its.toArray 0)).update h1.objs.size (Obj.mapSeq fun _ => (#[] : Array Value)), toks := tk1 } :=
  Inv.turned (s := { s with heap := h1.push (seqObj "list" its.toArray 0), toks := tk1 }) (it := h1.objs.size) (t' := tk1) IA (fun b o hb e => (sB.2 b hb).trans e) fpA.1 fpA.2.1 fpA.2.2.2.1 fpA.2.2.2.2.1 fpA.2.2.2.2.2
 refine wpAny_bind (seqEpoch_at hoB rfl ?_)
 refine wpAny_bind (wpAny_newTuple ?_ (by show its.length ≤ _; rw [hil]; exact hL))
 refine wpAny_bind (wpAny_newList ?_ (Nat.zero_le _))
 refine wpAny_holding ?_
 generalize hhB : (h1.push (seqObj "list" its.toArray 0)).update h1.objs.size (Obj.mapSeq fun _ => (#[] : Array Value)) = hB at hoB IB
 have IC : Inv X pins σ H { s with heap := hB.push (seqObj "tuple" its.toArray 0), toks := tk1 } := IB.kept (t' := tk1) fun b u e => Heap.get?_push_of_some _ e
 have hoC : (hB.push (seqObj "tuple" its.toArray 0)).get? h1.objs.size = some (seqObj "list" #[] e1) := Heap.get?_push_of_some _ hoB
 generalize hhC : hB.push (seqObj "tuple" its.toArray 0) = hC at hoC IC
 have nkS : H hC.objs.size = none := IC.hok.fresh (Nat.le_refl _)
 have ID : Inv X pins σ (upd H hC.objs.size (.lst [])) { s with heap := hC.push (seqObj "list" #[] 0), toks := tk1 } :=
  IC.lnew (its := []) (ys := []) (t' := tk1) .nil (Nat.zero_le _)
 have hoD2 : (hC.push (seqObj "list" #[] 0)).get? h1.objs.size = some (seqObj "list" #[] e1) := Heap.get?_push_of_some _ hoC
 have hDk : h1.objs.size ≠ hC.objs.size := Nat.ne_of_lt (Heap.lt_size hoC)
 have ID2 : Inv X (pins ++ [(h1.objs.size, seqObj "list" #[] e1)]) σ (upd H hC.objs.size (.lst [])) { s with heap := hC.push (seqObj "list" #[] 0), toks := tk1 } := ID.pins_of fun p hp => by
  rcases List.mem_append.mp hp with hp | hp
  ·exact ID.pin p (List.mem_append_right _ hp)
  ·have e : p = (h1.objs.size, seqObj "list" #[] e1) := by simpa using hp
   subst e
   exact ⟨hoD2, by rw [uN hDk]; exact fpD.1, fpD.2.1, fpD.2.2.1, fun v q => by cases q⟩
 generalize hkS : hC.objs.size = kS at nkS ID2 hDk
 show wpAny (model X.prog X.w) X.A.in1.in1 (ksk_rest h1.objs.size (.ref f) false its.toArray e1 (.ref kS)) _ _ _
 unfold ksk_rest
 refine wpAny_bind (wpAny_rule ?_)
 rw [List.forIn_toArray]
 generalize hD : h1.objs.size = D at fpD hDk ID2
 refine wpAny_bind (ksk_fold (fun i s' => ∃ (H' : Hp) (ts : List Addr), Inv X (pins ++ [(D, seqObj "list" #[] e1)]) σ H' s' ∧ H' kS = some (.lst (ts.map V.ref)) ∧ Kp [] H H' ∧ Paired (fun a z => H' a = some (.tup ((rk z).map V.int))) ts (zs.take i)) its 0 _
  ⟨_, [], ID2, uS, .new nkS, .nil⟩ ?step ?done)
 case step =>
  rintro j x s' hx ⟨H', ts, J, hk, kp, pr⟩
  rw [Nat.zero_add] at pr ⊢
  have hj : j < its.length := (List.getElem?_eq_some_iff.mp hx).1
  obtain ⟨z, hzj⟩ : ∃ z, zs[j]? = some z := ⟨_, List.getElem?_eq_getElem (by omega)⟩
  obtain ⟨u, hu, ru⟩ := hkeys.get (map_get' (f := V.int) hzj)
  rw [hx] at hu
  cases hu
  refine wpAny_bind (wpAny_attempt (wpAny_mono (turn _ s' H' z x J (fun p hp => List.mem_append_left _ hp) kp ru (List.mem_of_getElem? hzj)) (fun v s2 he => ?_) fun _ _ hF => hF.elim))
  obtain ⟨y, H2, J2, rv, a, rfl, ha, kp2⟩ := he
  cases rv
  have hk2 : H2 kS = some (.lst (ts.map V.ref)) := kp2.at_ hk
  obtain ⟨z1, its2, n2, rv2, hl2, ho2⟩ := J2.lstM hk2
  have hts : ts.length ≤ 100 := by
   have := plen pr
   rw [List.length_take] at this
   omega
  rw [List.length_map] at hl2
  dsimp only
  refine wpAny_bind (listUpdate_at ho2 rfl ?_ (by rw [List.size_toArray, sizeLine_eq]; omega) (by show (its2.toArray.push (Value.ref a)).size ≤ _; rw [Array.size_push, List.size_toArray, sizeLine_eq]; omega))
  refine wpAny_pure ⟨rfl, upd H2 kS (.lst ((ts ++ [a]).map V.ref)), ts ++ [a], ?_, uS, (kp.trans kp2).put_new nkS, ?_⟩
  ·have e3 : (its2.toArray.push (Value.ref a)) = (its2 ++ [Value.ref a]).toArray := by simp
   exact J2.lset (its' := its2 ++ [Value.ref a]) (f := (·.push (Value.ref a))) (t' := s2.toks) hk2 ho2 e3 (by rw [List.map_append]; exact rv2.append (.cons rfl .nil)) (by rw [List.length_map, List.length_append, List.length_singleton, sizeLine_eq]; omega)
  ·have e4 : zs.take (j + 1) = zs.take j ++ [z] := by rw [List.take_add_one, hzj]; rfl
   rw [e4]
   have kS' : ∀ b ys, H2 b = some (.tup ys) → upd H2 kS (.lst ((ts ++ [a]).map V.ref)) b = some (.tup ys) := fun b ys e => by rw [uN (ne_of e hk2 (fun q => nomatch q))]; exact e
   exact papp (pkeep pr fun b y e => kS' b _ (kp2.tup b _ e)) (.cons (kS' a _ ha) .nil)
 case done =>
  rintro s' ⟨H', ts, J, hk, kp, pr⟩
  rw [Nat.zero_add, hil, List.take_length] at pr
  obtain ⟨z1, its2, n2, rv2, hl2, ho2⟩ := J.lstM hk
  have hlt := plen pr
  rw [List.length_map] at hl2
  have ekeys : its2 = ts.map Value.ref := refs_at rv2
  refine wpAny_bind (listItems_at ho2 rfl ?_)
  have pinD := J.pin (D, seqObj "list" #[] e1) (List.mem_append_right _ (List.mem_append_right _ (.head _)))
  have hpr : ∀ p ∈ (its2.toArray.zip its.toArray).toList, PairIs s'.heap rk zs p := fun p hp => by
   have hp' : p ∈ its2.zip its := by simpa using hp
   obtain ⟨i, hi, ei⟩ := List.getElem_of_mem hp'
   rw [List.getElem_zip] at ei
   have h1 : i < its2.length := by rw [List.length_zip] at hi; omega
   have h2 : i < its.length := by rw [List.length_zip] at hi; omega
   obtain ⟨z, hzi⟩ : ∃ z, zs[i]? = some z := ⟨_, List.getElem?_eq_getElem (by omega)⟩
   obtain ⟨a, hai, hat'⟩ := pget pr hzi
   obtain ⟨u, hu, t, rfl⟩ := hkeys.get (map_get' (f := V.int) hzi)
   have e5 : its2[i]? = some (.ref a) := by rw [ekeys, List.getElem?_map, hai]; rfl
   have e6 : its2[i] = .ref a := (List.getElem?_eq_some_iff.mp e5).2
   have e7 : its[i] = .int z t := (List.getElem?_eq_some_iff.mp hu).2
   refine ⟨a, z, t, by rw [← ei, e6, e7], ?_⟩
   obtain ⟨_, tis, rt, o, q1, q2, n, q3⟩ := (show ObjOk X.prog X.w H' s'.heap a (.tup ((rk z).map V.int)) from J.hok a _ hat')
   unfold tupKeyC
   have e8 : isTupObj s'.heap (.ref a) = true := by simp [isTupObj, q1, q2]
   rw [if_pos e8]
   simp only [tupKey, q1, q3]
   exact tupItems_ints 0 rt
  have hzs : (its2.toArray.zip its.toArray).toList.map (fun p => numOf p.2) = zs := by
   have e9 : (its2.toArray.zip its.toArray).toList = its2.zip its := by simp
   have e10 : (its2.zip its).map (fun p => numOf p.2) = ((its2.zip its).map Prod.snd).map numOf := by rw [List.map_map]; rfl
   rw [e9, e10, List.map_snd_zip (by omega)]
   exact (intsAre_of hkeys).nums
  have hzl : (its2.toArray.zip its.toArray).size = its.length := by simp; omega
  have fin : ∀ st : SortSt, (arrOf st).Perm (its2.toArray.zip its.toArray) → failedOf st = none → SortedToK (tupKindC s'.heap iSh) (arrOf st) (arrOf st).size → Stable (tupKindC s'.heap iSh) (arrOf st) (its2.toArray.zip its.toArray) →
    wpAny (model X.prog X.w) X.A.in1.in1 (ksk_tail D false e1 (.ref kS) st) (fun fin s' => ∃ v, fin = .done (.ret v) ∧ wpAny (model X.prog X.w) X.A.in1 (ret (Value.ref D)) (fun fin s' => ∃ v, fin = .done (.ret v) ∧ EP X pins σ Q v s') X.xe s') X.xe s' := by
   intro st p1 p2 p3 p4
   have so := sortOut_of hpr hzs p1 p3 p4
   have hsz : (arrOf st).size = zs.length := by rw [p1.size_eq, hzl, hil]
   unfold ksk_tail
   dsimp only
   refine wpAny_bind (listUpdate_at ho2 rfl ?_ (by rw [List.size_toArray, sizeLine_eq]; omega) (Nat.zero_le _))
   refine wpAny_bind (wpAny_letGo ?_)
   have J3 : Inv X (pins ++ [(D, seqObj "list" #[] e1)]) σ (upd H' kS (.lst [])) { s' with heap := s'.heap.update kS (Obj.mapSeq fun _ => #[]), toks := s'.toks } := J.lset (its' := []) (ys := []) (f := fun _ => #[]) (t' := s'.toks) hk ho2 rfl .nil (Nat.zero_le _)
   have pinD3 := J3.pin (D, seqObj "list" #[] e1) (List.mem_append_right _ (List.mem_append_right _ (.head _)))
   refine wpAny_bind (seqEpoch_at pinD3.1 rfl ?_)
   refine wpAny_bind (listUpdate_at pinD3.1 rfl ?_ (Nat.zero_le _) (by simp only [Bool.false_eq_true, if_false, Array.size_map]; rw [hsz, sizeLine_eq]; omega))
   rw [p2]
   simp only [bne_self_eq_false, Bool.false_eq_true, if_false]
   refine wpAny_pure ⟨_, rfl, wpAny_pure ⟨_, rfl, ?_⟩⟩
   have J4 : Inv X pins σ (upd H' kS (.lst [])) { s' with heap := s'.heap.update kS (Obj.mapSeq fun _ => #[]), toks := s'.toks } := J3.pins_of fun p hp => J3.pin p (List.mem_append_right _ (List.mem_append_left _ hp))
   have harr : ∀ p ∈ (arrOf st).toList, PairIs s'.heap rk zs p := fun p hm => hpr p ((Array.perm_iff_toList_perm.mp p1).mem_iff.mp hm)
   refine ⟨.ref D, upd (upd H' kS (.lst [])) D (.lst ((((arrOf st).toList.map fun p => numOf p.2)).map V.int)), ?_, rfl, h _ _ D so uS ((kp.put_new nkS).put_new fpD.1) fpD.1⟩
   have sD := Heap.SameBut.update (s'.heap.update kS (Obj.mapSeq fun _ => (#[] : Array Value))) D (Obj.mapSeq fun _ => ((arrOf st).map (·.2)))
   refine Inv.adopt (s := { s' with heap := s'.heap.update kS (Obj.mapSeq fun _ => #[]), toks := s'.toks }) (t' := s'.toks) J4 ?fp (fun b u hb e => (sD.2 b hb).trans e) ?new
   case fp => exact ⟨pinD3.2.1, fpD.2⟩
   case new =>
    have q := get?_update_seq pinD3.1 fun _ => ((arrOf st).map (·.2))
    have e0 : (arrOf st).map (·.2) = ((arrOf st).toList.map Prod.snd).toArray := by apply Array.toList_inj.mp; simp
    rw [e0] at q ⊢
    exact ⟨by rw [List.length_map, List.length_map, Array.length_toList, hsz, sizeLine_eq]; omega, (arrOf st).toList.map Prod.snd, _, vals_pairs _ harr, q⟩
  have hts : its2 = ts.map Value.ref := ekeys
  obtain ⟨fs, hfs⟩ := tupsOf_ts J.hok pr hne
  unfold ksk_end
  simp only [Bool.false_eq_true, if_false]
  by_cases h2 : its.toArray.size < 2
  ·rw [if_pos h2, if_pos h2]
   refine wpAny_bind (wpAny_pure ?_)
   rw [StateT.run_pure]
   refine wpAny_bind (wpAny_pure ?_)
   dsimp only
   refine fin (SortSt.mk' general' (its2.toArray.zip its.toArray) #[] 7 none) (Array.Perm.refl _) rfl ?_ (Stable.refl _)
   intro i j hij hj
   have hj2 : j < (its2.toArray.zip its.toArray).size := hj
   rw [hzl] at hj2
   rw [List.size_toArray] at h2
   have : i = j := by omega
   subst this
   exact KeyOrd.kle_refl _
  ·rw [if_neg h2, if_neg h2]
   rw [List.size_toArray] at h2
   refine wpAny_bind ?_
   rw [hts]
   refine tup_kind (s := s') (by rw [TupsOf.length hfs, List.length_map]; omega) hfs ?_
   rw [← hts]
   refine wpAny_bind (wpAny_mono (PyProof.Rows.G.wpS_sortRunsSt (κ := tupKindC s'.heap iSh) (kd := tuples' true) (a₀ := its2.toArray.zip its.toArray)
    (st := SortSt.mk' (tuples' true) (its2.toArray.zip its.toArray) #[] 7 none)
    (Q := fun _ st' => (arrOf st').Perm (its2.toArray.zip its.toArray) ∧ failedOf st' = none ∧ SortedToK (tupKindC s'.heap iSh) (arrOf st') (its2.toArray.zip its.toArray).size ∧ Stable (tupKindC s'.heap iSh) (arrOf st') (its2.toArray.zip its.toArray))
    (tupC_ltAt true (KeepsTups.refl _)) (fun p hp => by obtain ⟨a, z, t, rfl, kz⟩ := hpr p hp; exact ⟨_, kz⟩) ⟨Array.Perm.refl _, rfl, rfl⟩ rfl (Stable.refl _) (by rw [hzl]; omega)
    fun st' a1 a2 a3 a4 => ⟨a1, a2, a3, a4⟩) ?_ fun _ _ e => e)
   rintro ⟨⟨⟩, st'⟩ s2 ⟨rfl, hp, hf, hs, hst⟩
   dsimp only
   exact fin st' hp hf (by rw [hp.size_eq]; exact hs) hst
end
end L2
namespace Pb
open PySem PySem.Spec PyProof.Rows L2
def top (i : Nat) : Stmt := PySem.Challenge.pw_priceboard_s01_answers.main.body.getD i (.Pass ⟨0, 0, 0, 0⟩)
abbrev sza : Stmt := inClass (top 10) 0
abbrev szb : Stmt := inClass (top 10) 1
abbrev szc : Stmt := inClass (top 10) 2
abbrev szd : Stmt := inClass (top 10) 3
abbrev sze : Stmt := inClass (top 10) 4
abbrev szf : Stmt := inClass (top 10) 5
abbrev szg : Stmt := inClass (top 10) 6
abbrev szh : Stmt := inClass (top 10) 7
abbrev szi : Stmt := inClass (top 10) 8
abbrev szj : Stmt := inClass (top 12) 0
abbrev szk : Stmt := inClass (top 12) 1
abbrev szl : Stmt := inClass (top 12) 2
abbrev szm : Stmt := inClass (top 12) 3
abbrev szn : Stmt := inClass (top 12) 4
abbrev szo : Stmt := inClass (top 12) 5
abbrev szp : Stmt := inClass (top 16) 0
abbrev szq : Stmt := inClass (top 16) 1
abbrev szr : Stmt := inClass (top 16) 2
abbrev szs : Stmt := inClass (top 16) 3
abbrev szt : Stmt := inClass (top 28) 0
abbrev szu : Stmt := top 29
abbrev szv : Stmt := top 30
abbrev szw : Stmt := top 31
abbrev szx : Stmt := top 32
abbrev szy : Stmt := top 33
abbrev szz : Stmt := top 34
abbrev szA : Stmt := top 35
abbrev szB : Stmt := top 36
abbrev szC : Stmt := top 37
abbrev szD : Stmt := top 38
abbrev szE : Stmt := top 39
abbrev szF : Stmt := top 40
abbrev szG : Stmt := top 41
abbrev szH : Stmt := top 42
abbrev szI : Stmt := inClass (top 58) 0
abbrev szJ : Stmt := inClass (top 58) 1
abbrev szK : Stmt := inClass (top 58) 2
abbrev szL : Stmt := inClass (top 58) 3
abbrev szM : Stmt := inClass (top 58) 4
abbrev szN : Stmt := top 59
abbrev szO : Stmt := top 60
abbrev szP : Stmt := top 61
abbrev szQ : Stmt := top 62
abbrev szR : Stmt := top 63
abbrev szS : Stmt := top 64
abbrev szT : Stmt := top 65
abbrev szU : Stmt := top 66
abbrev szV : Stmt := top 67
abbrev szW : Stmt := top 68
abbrev szX : Stmt := top 69
abbrev szY : Stmt := top 70
abbrev szZ : Stmt := top 71
abbrev sz0 : Stmt := top 72
abbrev sz1 : Stmt := top 73
abbrev sz2 : Stmt := top 74
abbrev sz3 : Stmt := top 75
abbrev sz4 : Stmt := top 76
abbrev sz5 : Stmt := top 77
abbrev sz6 : Stmt := top 78
abbrev sz7 : Stmt := top 79
abbrev sz8 : Stmt := top 80
abbrev sz9 : Stmt := top 81
abbrev sya : Stmt := top 82
abbrev syb : Stmt := top 83
abbrev syc : Stmt := top 84
abbrev syd : Stmt := top 85
abbrev sye : Stmt := top 87
abbrev syf : Stmt := top 88
structure Adr where
 cGrid : Addr
 cMarkers : Addr
 cGame : Addr
 cReading : Addr
 cReader : Addr
 aza : Addr
 dza : FuncData
 azb : Addr
 dzb : FuncData
 azc : Addr
 dzc : FuncData
 azd : Addr
 dzd : FuncData
 aze : Addr
 dze : FuncData
 azf : Addr
 dzf : FuncData
 azg : Addr
 dzg : FuncData
 azh : Addr
 dzh : FuncData
 azi : Addr
 dzi : FuncData
 azj : Addr
 dzj : FuncData
 azk : Addr
 dzk : FuncData
 azl : Addr
 dzl : FuncData
 azm : Addr
 dzm : FuncData
 azn : Addr
 dzn : FuncData
 azo : Addr
 dzo : FuncData
 azp : Addr
 dzp : FuncData
 azq : Addr
 dzq : FuncData
 azr : Addr
 dzr : FuncData
 azs : Addr
 dzs : FuncData
 azt : Addr
 dzt : FuncData
 azu : Addr
 dzu : FuncData
 azv : Addr
 dzv : FuncData
 azw : Addr
 dzw : FuncData
 azx : Addr
 dzx : FuncData
 azy : Addr
 dzy : FuncData
 azz : Addr
 dzz : FuncData
 azA : Addr
 dzA : FuncData
 azB : Addr
 dzB : FuncData
 azC : Addr
 dzC : FuncData
 azD : Addr
 dzD : FuncData
 azE : Addr
 dzE : FuncData
 azF : Addr
 dzF : FuncData
 azG : Addr
 dzG : FuncData
 azH : Addr
 dzH : FuncData
 azI : Addr
 dzI : FuncData
 azJ : Addr
 dzJ : FuncData
 azK : Addr
 dzK : FuncData
 azL : Addr
 dzL : FuncData
 azM : Addr
 dzM : FuncData
 azN : Addr
 dzN : FuncData
 azO : Addr
 dzO : FuncData
 azP : Addr
 dzP : FuncData
 azQ : Addr
 dzQ : FuncData
 azR : Addr
 dzR : FuncData
 azS : Addr
 dzS : FuncData
 azT : Addr
 dzT : FuncData
 azU : Addr
 dzU : FuncData
 azV : Addr
 dzV : FuncData
 azW : Addr
 dzW : FuncData
 azX : Addr
 dzX : FuncData
 azY : Addr
 dzY : FuncData
 azZ : Addr
 dzZ : FuncData
 az0 : Addr
 dz0 : FuncData
 az1 : Addr
 dz1 : FuncData
 az2 : Addr
 dz2 : FuncData
 az3 : Addr
 dz3 : FuncData
 az4 : Addr
 dz4 : FuncData
 az5 : Addr
 dz5 : FuncData
 az6 : Addr
 dz6 : FuncData
 az7 : Addr
 dz7 : FuncData
 az8 : Addr
 dz8 : FuncData
 az9 : Addr
 dz9 : FuncData
 aya : Addr
 dya : FuncData
 ayb : Addr
 dyb : FuncData
 ayc : Addr
 dyc : FuncData
 ayd : Addr
 dyd : FuncData
 aye : Addr
 dye : FuncData
 ayf : Addr
 dyf : FuncData
 kxa : Tok
 kxb : Tok
 kxc : Tok
 kxd : Tok
 axe : Addr
 kxf : Tok
 kxg : Tok
 kxh : Tok
 axi : Addr
 kxj : Tok
 kxk : Tok
 kxl : Tok
 kxm : Tok
 kxn : Tok
 kxo : Tok
 kxp : Tok
 kxq : Tok
 kxr : Tok
 kxs : Tok
 kxt : Tok
 kxu : Tok
 kxv : Tok
 kxw : Tok
 kxx : Tok
 kxy : Tok
 kxz : Tok
 kxA : Tok
 kxB : Tok
 kxC : Tok
 kxD : Tok
 kxE : Tok
 kxF : Tok
 kxG : Tok
 kxH : Tok
 kxI : Tok
 axJ : Addr
 cOrd : Addr
 pT : Addr
structure Txt (K : W.Frag) (mg : Str → Option Value) (A : Adr) : Prop where
 clGrid : Cls K A.cGrid
 mkGrid : Mk K A.cGrid A.aza
 gGrid : mg "Grid" = some (.ref A.cGrid)
 nGr : NoAttr K A.cGrid "rows"
 clMarkers : Cls K A.cMarkers
 mkMarkers : Mk K A.cMarkers A.azj
 gMarkers : mg "Markers" = some (.ref A.cMarkers)
 nMp : NoAttr K A.cMarkers "places"
 nMc : NoAttr K A.cMarkers "closed"
 nMe : NoAttr K A.cMarkers "ended"
 clGame : Cls K A.cGame
 mkGame : Mk K A.cGame A.azp
 gGame : mg "Game" = some (.ref A.cGame)
 nGg : NoAttr K A.cGame "grid"
 nGm : NoAttr K A.cGame "markers"
 nGp : NoAttr K A.cGame "past"
 clReading : Cls K A.cReading
 mkReading : Mk K A.cReading A.azt
 gReading : mg "Reading" = some (.ref A.cReading)
 nRr : NoAttr K A.cReading "rows"
 nRw : NoAttr K A.cReading "wrong"
 clReader : Cls K A.cReader
 mkReader : Mk K A.cReader A.azI
 gReader : mg "Reader" = some (.ref A.cReader)
 nRc : NoAttr K A.cReader "calls"
 nRp : NoAttr K A.cReader "position"
 fza : Fun K "__init__" "Grid.__init__" sza A.aza A.dza
 bza : Binds K A.dza ["self", "rows"] []
 fzb : Fun K "has" "Grid.has" szb A.azb A.dzb
 bzb : Binds K A.dzb ["self", "place"] []
 mzb : Meth K A.cGrid "has" A.azb
 fzc : Fun K "all_places" "Grid.all_places" szc A.azc A.dzc
 bzc : Binds K A.dzc ["self"] []
 mzc : Meth K A.cGrid "all_places" A.azc
 fzd : Fun K "price" "Grid.price" szd A.azd A.dzd
 bzd : Binds K A.dzd ["self", "place"] []
 mzd : Meth K A.cGrid "price" A.azd
 fze : Fun K "letters" "Grid.letters" sze A.aze A.dze
 bze : Binds K A.dze ["self", "place"] []
 mze : Meth K A.cGrid "letters" A.aze
 fzf : Fun K "step" "Grid.step" szf A.azf A.dzf
 bzf : Binds K A.dzf ["self", "place", "move"] []
 mzf : Meth K A.cGrid "step" A.azf
 fzg : Fun K "walk" "Grid.walk" szg A.azg A.dzg
 bzg : Binds K A.dzg ["self", "place", "moves"] []
 mzg : Meth K A.cGrid "walk" A.azg
 fzh : Fun K "beyond" "Grid.beyond" szh A.azh A.dzh
 bzh : Binds K A.dzh ["self", "edge", "reached"] []
 mzh : Meth K A.cGrid "beyond" A.azh
 fzi : Fun K "least_moves" "Grid.least_moves" szi A.azi A.dzi
 bzi : Binds K A.dzi ["self", "start", "goal"] []
 mzi : Meth K A.cGrid "least_moves" A.azi
 fzj : Fun K "__init__" "Markers.__init__" szj A.azj A.dzj
 bzj : Binds K A.dzj ["self"] []
 fzk : Fun K "copied" "Markers.copied" szk A.azk A.dzk
 bzk : Binds K A.dzk ["self"] []
 mzk : Meth K A.cMarkers "copied" A.azk
 fzl : Fun K "put" "Markers.put" szl A.azl A.dzl
 bzl : Binds K A.dzl ["self", "company", "place"] []
 mzl : Meth K A.cMarkers "put" A.azl
 fzm : Fun K "send" "Markers.send" szm A.azm A.dzm
 bzm : Binds K A.dzm ["self", "grid", "company", "moves"] []
 mzm : Meth K A.cMarkers "send" A.azm
 fzn : Fun K "stack" "Markers.stack" szn A.azn A.dzn
 bzn : Binds K A.dzn ["self", "place"] []
 mzn : Meth K A.cMarkers "stack" A.azn
 fzo : Fun K "order" "Markers.order" szo A.azo A.dzo
 bzo : Binds K A.dzo ["self", "grid"] []
 mzo : Meth K A.cMarkers "order" A.azo
 fzp : Fun K "__init__" "Game.__init__" szp A.azp A.dzp
 bzp : Binds K A.dzp ["self"] []
 fzq : Fun K "lay" "Game.lay" szq A.azq A.dzq
 bzq : Binds K A.dzq ["self", "grid"] []
 mzq : Meth K A.cGame "lay" A.azq
 fzr : Fun K "record_change" "Game.record_change" szr A.azr A.dzr
 bzr : Binds K A.dzr ["self"] []
 mzr : Meth K A.cGame "record_change" A.azr
 fzs : Fun K "take_back" "Game.take_back" szs A.azs A.dzs
 bzs : Binds K A.dzs ["self"] []
 mzs : Meth K A.cGame "take_back" A.azs
 fzt : Fun K "__init__" "Reading.__init__" szt A.azt A.dzt
 bzt : Binds K A.dzt ["self"] []
 fzu : Fun K "parted" "parted" szu A.azu A.dzu
 bzu : Binds K A.dzu ["signs", "mark"] []
 gzu : mg "parted" = some (.ref A.azu)
 fzv : Fun K "lines_of" "lines_of" szv A.azv A.dzv
 bzv : Binds K A.dzv ["text"] []
 gzv : mg "lines_of" = some (.ref A.azv)
 fzw : Fun K "words_of" "words_of" szw A.azw A.dzw
 bzw : Binds K A.dzw ["line"] []
 gzw : mg "words_of" = some (.ref A.azw)
 fzx : Fun K "read_price" "read_price" szx A.azx A.dzx
 bzx : Binds K A.dzx ["digits"] []
 gzx : mg "read_price" = some (.ref A.azx)
 fzy : Fun K "are_letters" "are_letters" szy A.azy A.dzy
 bzy : Binds K A.dzy ["signs"] []
 gzy : mg "are_letters" = some (.ref A.azy)
 fzz : Fun K "read_cell" "read_cell" szz A.azz A.dzz
 bzz : Binds K A.dzz ["word"] []
 gzz : mg "read_cell" = some (.ref A.azz)
 fzA : Fun K "rises" "rises" szA A.azA A.dzA
 bzA : Binds K A.dzA ["row"] []
 gzA : mg "rises" = some (.ref A.azA)
 fzB : Fun K "fits_under" "fits_under" szB A.azB A.dzB
 bzB : Binds K A.dzB ["row", "above"] []
 gzB : mg "fits_under" = some (.ref A.azB)
 fzC : Fun K "read_row" "read_row" szC A.azC A.dzC
 bzC : Binds K A.dzC ["words", "rows"] []
 gzC : mg "read_row" = some (.ref A.azC)
 fzD : Fun K "is_plain" "is_plain" szD A.azD A.dzD
 bzD : Binds K A.dzD ["line"] []
 gzD : mg "is_plain" = some (.ref A.azD)
 fzE : Fun K "take_line" "take_line" szE A.azE A.dzE
 bzE : Binds K A.dzE ["rows", "line"] []
 gzE : mg "take_line" = some (.ref A.azE)
 fzF : Fun K "read_board" "read_board" szF A.azF A.dzF
 bzF : Binds K A.dzF ["text"] []
 gzF : mg "read_board" = some (.ref A.azF)
 fzG : Fun K "printed_cell" "printed_cell" szG A.azG A.dzG
 bzG : Binds K A.dzG ["cell"] []
 gzG : mg "printed_cell" = some (.ref A.azG)
 fzH : Fun K "printed_board" "printed_board" szH A.azH A.dzH
 bzH : Binds K A.dzH ["rows"] []
 gzH : mg "printed_board" = some (.ref A.azH)
 fzI : Fun K "__init__" "Reader.__init__" szI A.azI A.dzI
 bzI : Binds K A.dzI ["self", "calls"] []
 fzJ : Fun K "has_more" "Reader.has_more" szJ A.azJ A.dzJ
 bzJ : Binds K A.dzJ ["self"] []
 mzJ : Meth K A.cReader "has_more" A.azJ
 fzK : Fun K "take_number" "Reader.take_number" szK A.azK A.dzK
 bzK : Binds K A.dzK ["self"] []
 mzK : Meth K A.cReader "take_number" A.azK
 fzL : Fun K "take_place" "Reader.take_place" szL A.azL A.dzL
 bzL : Binds K A.dzL ["self"] []
 mzL : Meth K A.cReader "take_place" A.azL
 fzM : Fun K "take_list" "Reader.take_list" szM A.azM A.dzM
 bzM : Binds K A.dzM ["self"] []
 mzM : Meth K A.cReader "take_list" A.azM
 fzN : Fun K "with_count" "with_count" szN A.azN A.dzN
 bzN : Binds K A.dzN ["numbers"] []
 gzN : mg "with_count" = some (.ref A.azN)
 fzO : Fun K "has_marker" "has_marker" szO A.azO A.dzO
 bzO : Binds K A.dzO ["game", "company"] []
 gzO : mg "has_marker" = some (.ref A.azO)
 fzP : Fun K "price_of" "price_of" szP A.azP A.dzP
 bzP : Binds K A.dzP ["game", "company"] []
 gzP : mg "price_of" = some (.ref A.azP)
 fzQ : Fun K "are_moves" "are_moves" szQ A.azQ A.dzQ
 bzQ : Binds K A.dzQ ["numbers"] []
 gzQ : mg "are_moves" = some (.ref A.azQ)
 fzR : Fun K "are_shares" "are_shares" szR A.azR A.dzR
 bzR : Binds K A.dzR ["numbers"] []
 gzR : mg "are_shares" = some (.ref A.azR)
 fzS : Fun K "send_marker" "send_marker" szS A.azS A.dzS
 bzS : Binds K A.dzS ["game", "company", "moves"] []
 gzS : mg "send_marker" = some (.ref A.azS)
 fzT : Fun K "load" "load" szT A.azT A.dzT
 bzT : Binds K A.dzT ["game", "reader"] []
 gzT : mg "load" = some (.ref A.azT)
 fzU : Fun K "tell_board" "tell_board" szU A.azU A.dzU
 bzU : Binds K A.dzU ["game", "reader"] []
 gzU : mg "tell_board" = some (.ref A.azU)
 fzV : Fun K "tell_cell" "tell_cell" szV A.azV A.dzV
 bzV : Binds K A.dzV ["game", "reader"] []
 gzV : mg "tell_cell" = some (.ref A.azV)
 fzW : Fun K "begin" "begin" szW A.azW A.dzW
 bzW : Binds K A.dzW ["game", "reader"] []
 gzW : mg "begin" = some (.ref A.azW)
 fzX : Fun K "sell" "sell" szX A.azX A.dzX
 bzX : Binds K A.dzX ["game", "reader"] []
 gzX : mg "sell" = some (.ref A.azX)
 fzY : Fun K "pay" "pay" szY A.azY A.dzY
 bzY : Binds K A.dzY ["game", "reader"] []
 gzY : mg "pay" = some (.ref A.azY)
 fzZ : Fun K "sold_out" "sold_out" szZ A.azZ A.dzZ
 bzZ : Binds K A.dzZ ["game", "reader"] []
 gzZ : mg "sold_out" = some (.ref A.azZ)
 fz0 : Fun K "make_moves" "make_moves" sz0 A.az0 A.dz0
 bz0 : Binds K A.dz0 ["game", "reader"] []
 gz0 : mg "make_moves" = some (.ref A.az0)
 fz1 : Fun K "tell_price" "tell_price" sz1 A.az1 A.dz1
 bz1 : Binds K A.dz1 ["game", "reader"] []
 gz1 : mg "tell_price" = some (.ref A.az1)
 fz2 : Fun K "tell_place" "tell_place" sz2 A.az2 A.dz2
 bz2 : Binds K A.dz2 ["game", "reader"] []
 gz2 : mg "tell_place" = some (.ref A.az2)
 fz3 : Fun K "tell_order" "tell_order" sz3 A.az3 A.dz3
 bz3 : Binds K A.dz3 ["game", "reader"] []
 gz3 : mg "tell_order" = some (.ref A.az3)
 fz4 : Fun K "tell_stack" "tell_stack" sz4 A.az4 A.dz4
 bz4 : Binds K A.dz4 ["game", "reader"] []
 gz4 : mg "tell_stack" = some (.ref A.az4)
 fz5 : Fun K "tell_closed" "tell_closed" sz5 A.az5 A.dz5
 bz5 : Binds K A.dz5 ["game", "reader"] []
 gz5 : mg "tell_closed" = some (.ref A.az5)
 fz6 : Fun K "tell_ended" "tell_ended" sz6 A.az6 A.dz6
 bz6 : Binds K A.dz6 ["game", "reader"] []
 gz6 : mg "tell_ended" = some (.ref A.az6)
 fz7 : Fun K "tell_reach" "tell_reach" sz7 A.az7 A.dz7
 bz7 : Binds K A.dz7 ["game", "reader"] []
 gz7 : mg "tell_reach" = some (.ref A.az7)
 fz8 : Fun K "tell_same" "tell_same" sz8 A.az8 A.dz8
 bz8 : Binds K A.dz8 ["game", "reader"] []
 gz8 : mg "tell_same" = some (.ref A.az8)
 fz9 : Fun K "tell_steps" "tell_steps" sz9 A.az9 A.dz9
 bz9 : Binds K A.dz9 ["game", "reader"] []
 gz9 : mg "tell_steps" = some (.ref A.az9)
 fya : Fun K "undo" "undo" sya A.aya A.dya
 bya : Binds K A.dya ["game", "reader"] []
 gya : mg "undo" = some (.ref A.aya)
 fyb : Fun K "tell_worth" "tell_worth" syb A.ayb A.dyb
 byb : Binds K A.dyb ["game", "reader"] []
 gyb : mg "tell_worth" = some (.ref A.ayb)
 fyc : Fun K "tell_first" "tell_first" syc A.ayc A.dyc
 byc : Binds K A.dyc ["game", "reader"] []
 gyc : mg "tell_first" = some (.ref A.ayc)
 fyd : Fun K "tell_size" "tell_size" syd A.ayd A.dyd
 byd : Binds K A.dyd ["game", "reader"] []
 gyd : mg "tell_size" = some (.ref A.ayd)
 fye : Fun K "play" "play" sye A.aye A.dye
 bye : Binds K A.dye ["game", "calls"] []
 gye : mg "play" = some (.ref A.aye)
 fyf : Fun K "answers" "answers" syf A.ayf A.dyf
 byf : Binds K A.dyf ["calls"] []
 gyf : mg "answers" = some (.ref A.ayf)
 gxa : mg "UP" = some (.int (1) A.kxa)
 gxb : mg "RIGHT" = some (.int (2) A.kxb)
 gxc : mg "DOWN" = some (.int (3) A.kxc)
 gxd : mg "LEFT" = some (.int (4) A.kxd)
 gxe : mg "MOVES" = some (.ref A.axe)
 txe : ∀ H : Hp, SqT K H A.axe [.int (1), .int (2), .int (3), .int (4)]
 gxf : mg "BEGIN" = some (.int (98) A.kxf)
 gxg : mg "CLOSE" = some (.int (99) A.kxg)
 gxh : mg "END" = some (.int (101) A.kxh)
 gxi : mg "LETTERS" = some (.ref A.axi)
 txi : ∀ H : Hp, SqT K H A.axi [.int (98), .int (99), .int (101), .int (102)]
 gxj : mg "FIRST_PRICE" = some (.int (100) A.kxj)
 gxk : mg "MOST_CHANGES" = some (.int (50) A.kxk)
 gxl : mg "LINE_FEED" = some (.int (10) A.kxl)
 gxm : mg "BLANK" = some (.int (32) A.kxm)
 gxn : mg "LAST_SIGN" = some (.int (126) A.kxn)
 gxo : mg "HASH" = some (.int (35) A.kxo)
 gxp : mg "ZERO" = some (.int (48) A.kxp)
 gxq : mg "NINE" = some (.int (57) A.kxq)
 gxr : mg "MOST_ROWS" = some (.int (12) A.kxr)
 gxs : mg "MOST_CELLS" = some (.int (20) A.kxs)
 gxt : mg "MOST_PRICE" = some (.int (10000) A.kxt)
 gxu : mg "MOST_DIGITS" = some (.int (5) A.kxu)
 gxv : mg "NO_SUCH" = some (.int (-1) A.kxv)
 gxw : mg "OUT_OF_RANGE" = some (.int (-2) A.kxw)
 gxx : mg "WAS_CLOSED" = some (.int (-3) A.kxx)
 gxy : mg "HAS_MARKER" = some (.int (-4) A.kxy)
 gxz : mg "NO_BEGINNING" = some (.int (-5) A.kxz)
 gxA : mg "TOLD_TWICE" = some (.int (-6) A.kxA)
 gxB : mg "NOTHING_TO_TAKE_BACK" = some (.int (-7) A.kxB)
 gxC : mg "WRONG_LINE" = some (.int (-100) A.kxC)
 gxD : mg "COMPANIES" = some (.int (8) A.kxD)
 gxE : mg "MOST_BYTES" = some (.int (4000) A.kxE)
 gxF : mg "MOST_SALE" = some (.int (10) A.kxF)
 gxG : mg "MOST_PAYMENT" = some (.int (1000000000) A.kxG)
 gxH : mg "MOST_MOVES" = some (.int (60) A.kxH)
 gxI : mg "MOST_SHARES" = some (.int (1000000) A.kxI)
 gxJ : mg "CALLS" = some (.ref A.axJ)
 txJ : ∀ H : Hp, SqT K H A.axJ [.ref A.azT, .ref A.azU, .ref A.azV, .ref A.azW, .ref A.azX, .ref A.azY, .ref A.azZ, .ref A.az0, .ref A.az1, .ref A.az2, .ref A.az3, .ref A.az4, .ref A.az5, .ref A.az6, .ref A.az7, .ref A.az8, .ref A.az9, .ref A.aya, .ref A.ayb, .ref A.ayc, .ref A.ayd]
 cdOrd : A.dzo.code = .ref A.cOrd
 cdHd : W.codeHdIn K A.cOrd A.pT = true
 nall : mg "all" = none
 ndict : mg "dict" = none
 nlen : mg "len" = none
 nlist : mg "list" = none
 nord : mg "ord" = none
 nrange : mg "range" = none
 nset : mg "set" = none
 nsorted : mg "sorted" = none
 nstr : mg "str" = none
 nsum : mg "sum" = none
 ntuple : mg "tuple" = none
theorem scza : FnScope ["self", "rows"] ["self", "rows"] (dZ sza) := ⟨rfl, rfl, rfl, by decide +kernel, rfl, by decide +kernel, by decide +kernel⟩
theorem sczb : FnScope ["self", "place", "row", "column"] ["self", "place"] (dZ szb) := ⟨rfl, rfl, rfl, by decide +kernel, rfl, by decide +kernel, by decide +kernel⟩
theorem sczc : FnScope ["self", "places", "row", "column"] ["self"] (dZ szc) := ⟨rfl, rfl, rfl, by decide +kernel, rfl, by decide +kernel, by decide +kernel⟩
theorem sczd : FnScope ["self", "place"] ["self", "place"] (dZ szd) := ⟨rfl, rfl, rfl, by decide +kernel, rfl, by decide +kernel, by decide +kernel⟩
theorem scze : FnScope ["self", "place"] ["self", "place"] (dZ sze) := ⟨rfl, rfl, rfl, by decide +kernel, rfl, by decide +kernel, by decide +kernel⟩
theorem sczf : FnScope ["self", "place", "move", "row", "column", "goal"] ["self", "place", "move"] (dZ szf) := ⟨rfl, rfl, rfl, by decide +kernel, rfl, by decide +kernel, by decide +kernel⟩
theorem sczg : FnScope ["self", "place", "moves", "here", "move"] ["self", "place", "moves"] (dZ szg) := ⟨rfl, rfl, rfl, by decide +kernel, rfl, by decide +kernel, by decide +kernel⟩
theorem sczh : FnScope ["self", "edge", "reached", "fresh", "place", "move", "goal"] ["self", "edge", "reached"] (dZ szh) := ⟨rfl, rfl, rfl, by decide +kernel, rfl, by decide +kernel, by decide +kernel⟩
theorem sczi : FnScope ["self", "start", "goal", "reached", "edge", "count"] ["self", "start", "goal"] (dZ szi) := ⟨rfl, rfl, rfl, by decide +kernel, rfl, by decide +kernel, by decide +kernel⟩
theorem sczj : FnScope ["self"] ["self"] (dZ szj) := ⟨rfl, rfl, rfl, by decide +kernel, rfl, by decide +kernel, by decide +kernel⟩
theorem sczk : FnScope ["self", "twin"] ["self"] (dZ szk) := ⟨rfl, rfl, rfl, by decide +kernel, rfl, by decide +kernel, by decide +kernel⟩
theorem sczl : FnScope ["self", "company", "place"] ["self", "company", "place"] (dZ szl) := ⟨rfl, rfl, rfl, by decide +kernel, rfl, by decide +kernel, by decide +kernel⟩
theorem sczm : FnScope ["self", "grid", "company", "moves", "before", "after", "letters"] ["self", "grid", "company", "moves"] (dZ szm) := ⟨rfl, rfl, rfl, by decide +kernel, rfl, by decide +kernel, by decide +kernel⟩
theorem sczn : FnScope ["self", "place", "company"] ["self", "place"] (dZ szn) := ⟨rfl, rfl, rfl, by decide +kernel, rfl, by decide +kernel, by decide +kernel⟩
theorem sczo : FnScope ["self", "grid", "rank"] ["self", "grid"] (dZ szo) := ⟨rfl, rfl, rfl, by decide +kernel, rfl, by decide +kernel, by decide +kernel⟩
theorem sczp : FnScope ["self"] ["self"] (dZ szp) := ⟨rfl, rfl, rfl, by decide +kernel, rfl, by decide +kernel, by decide +kernel⟩
theorem sczq : FnScope ["self", "grid"] ["self", "grid"] (dZ szq) := ⟨rfl, rfl, rfl, by decide +kernel, rfl, by decide +kernel, by decide +kernel⟩
theorem sczr : FnScope ["self"] ["self"] (dZ szr) := ⟨rfl, rfl, rfl, by decide +kernel, rfl, by decide +kernel, by decide +kernel⟩
theorem sczs : FnScope ["self"] ["self"] (dZ szs) := ⟨rfl, rfl, rfl, by decide +kernel, rfl, by decide +kernel, by decide +kernel⟩
theorem sczt : FnScope ["self"] ["self"] (dZ szt) := ⟨rfl, rfl, rfl, by decide +kernel, rfl, by decide +kernel, by decide +kernel⟩
theorem sczu : FnScope ["signs", "mark", "pieces", "sign"] ["signs", "mark"] (dZ szu) := ⟨rfl, rfl, rfl, by decide +kernel, rfl, by decide +kernel, by decide +kernel⟩
theorem sczv : FnScope ["text", "lines"] ["text"] (dZ szv) := ⟨rfl, rfl, rfl, by decide +kernel, rfl, by decide +kernel, by decide +kernel⟩
theorem sczw : FnScope ["line", "piece"] ["line"] (dZ szw) := ⟨rfl, rfl, rfl, by decide +kernel, rfl, by decide +kernel, by decide +kernel⟩
theorem sczx : FnScope ["digits", "price", "digit"] ["digits"] (dZ szx) := ⟨rfl, rfl, rfl, by decide +kernel, rfl, by decide +kernel, by decide +kernel⟩
theorem sczy : FnScope ["signs", "letter"] ["signs"] (dZ szy) := ⟨rfl, rfl, rfl, by decide +kernel, rfl, by decide +kernel, by decide +kernel⟩
theorem sczz : FnScope ["word", "count", "price", "letters"] ["word"] (dZ szz) := ⟨rfl, rfl, rfl, by decide +kernel, rfl, by decide +kernel, by decide +kernel⟩
theorem sczA : FnScope ["row", "k"] ["row"] (dZ szA) := ⟨rfl, rfl, rfl, by decide +kernel, rfl, by decide +kernel, by decide +kernel⟩
theorem sczB : FnScope ["row", "above", "k"] ["row", "above"] (dZ szB) := ⟨rfl, rfl, rfl, by decide +kernel, rfl, by decide +kernel, by decide +kernel⟩
theorem sczC : FnScope ["words", "rows", "row", "word"] ["words", "rows"] (dZ szC) := ⟨rfl, rfl, rfl, by decide +kernel, rfl, by decide +kernel, by decide +kernel⟩
theorem sczD : FnScope ["line", "sign"] ["line"] (dZ szD) := ⟨rfl, rfl, rfl, by decide +kernel, rfl, by decide +kernel, by decide +kernel⟩
theorem sczE : FnScope ["rows", "line", "words", "row"] ["rows", "line"] (dZ szE) := ⟨rfl, rfl, rfl, by decide +kernel, rfl, by decide +kernel, by decide +kernel⟩
theorem sczF : FnScope ["text", "reading", "lines", "k"] ["text"] (dZ szF) := ⟨rfl, rfl, rfl, by decide +kernel, rfl, by decide +kernel, by decide +kernel⟩
theorem sczG : FnScope ["cell", "digit"] ["cell"] (dZ szG) := ⟨rfl, rfl, rfl, by decide +kernel, rfl, by decide +kernel, by decide +kernel⟩
theorem sczH : FnScope ["rows", "signs", "row", "k"] ["rows"] (dZ szH) := ⟨rfl, rfl, rfl, by decide +kernel, rfl, by decide +kernel, by decide +kernel⟩
theorem sczI : FnScope ["self", "calls"] ["self", "calls"] (dZ szI) := ⟨rfl, rfl, rfl, by decide +kernel, rfl, by decide +kernel, by decide +kernel⟩
theorem sczJ : FnScope ["self"] ["self"] (dZ szJ) := ⟨rfl, rfl, rfl, by decide +kernel, rfl, by decide +kernel, by decide +kernel⟩
theorem sczK : FnScope ["self", "number"] ["self"] (dZ szK) := ⟨rfl, rfl, rfl, by decide +kernel, rfl, by decide +kernel, by decide +kernel⟩
theorem sczL : FnScope ["self", "row", "column"] ["self"] (dZ szL) := ⟨rfl, rfl, rfl, by decide +kernel, rfl, by decide +kernel, by decide +kernel⟩
theorem sczM : FnScope ["self", "size", "numbers"] ["self"] (dZ szM) := ⟨rfl, rfl, rfl, by decide +kernel, rfl, by decide +kernel, by decide +kernel⟩
theorem sczN : FnScope ["numbers"] ["numbers"] (dZ szN) := ⟨rfl, rfl, rfl, by decide +kernel, rfl, by decide +kernel, by decide +kernel⟩
theorem sczO : FnScope ["game", "company"] ["game", "company"] (dZ szO) := ⟨rfl, rfl, rfl, by decide +kernel, rfl, by decide +kernel, by decide +kernel⟩
theorem sczP : FnScope ["game", "company"] ["game", "company"] (dZ szP) := ⟨rfl, rfl, rfl, by decide +kernel, rfl, by decide +kernel, by decide +kernel⟩
theorem sczQ : FnScope ["numbers", "number"] ["numbers"] (dZ szQ) := ⟨rfl, rfl, rfl, by decide +kernel, rfl, by decide +kernel, by decide +kernel⟩
theorem sczR : FnScope ["numbers", "number"] ["numbers"] (dZ szR) := ⟨rfl, rfl, rfl, by decide +kernel, rfl, by decide +kernel, by decide +kernel⟩
theorem sczS : FnScope ["game", "company", "moves"] ["game", "company", "moves"] (dZ szS) := ⟨rfl, rfl, rfl, by decide +kernel, rfl, by decide +kernel, by decide +kernel⟩
theorem sczT : FnScope ["game", "reader", "text", "reading"] ["game", "reader"] (dZ szT) := ⟨rfl, rfl, rfl, by decide +kernel, rfl, by decide +kernel, by decide +kernel⟩
theorem sczU : FnScope ["game", "reader"] ["game", "reader"] (dZ szU) := ⟨rfl, rfl, rfl, by decide +kernel, rfl, by decide +kernel, by decide +kernel⟩
theorem sczV : FnScope ["game", "reader", "place"] ["game", "reader"] (dZ szV) := ⟨rfl, rfl, rfl, by decide +kernel, rfl, by decide +kernel, by decide +kernel⟩
theorem sczW : FnScope ["game", "reader", "company", "place"] ["game", "reader"] (dZ szW) := ⟨rfl, rfl, rfl, by decide +kernel, rfl, by decide +kernel, by decide +kernel⟩
theorem sczX : FnScope ["game", "reader", "company", "count"] ["game", "reader"] (dZ szX) := ⟨rfl, rfl, rfl, by decide +kernel, rfl, by decide +kernel, by decide +kernel⟩
theorem sczY : FnScope ["game", "reader", "company", "payment"] ["game", "reader"] (dZ szY) := ⟨rfl, rfl, rfl, by decide +kernel, rfl, by decide +kernel, by decide +kernel⟩
theorem sczZ : FnScope ["game", "reader", "companies", "company", "acting"] ["game", "reader"] (dZ szZ) := ⟨rfl, rfl, rfl, by decide +kernel, rfl, by decide +kernel, by decide +kernel⟩
theorem scz0 : FnScope ["game", "reader", "company", "moves"] ["game", "reader"] (dZ sz0) := ⟨rfl, rfl, rfl, by decide +kernel, rfl, by decide +kernel, by decide +kernel⟩
theorem scz1 : FnScope ["game", "reader", "company"] ["game", "reader"] (dZ sz1) := ⟨rfl, rfl, rfl, by decide +kernel, rfl, by decide +kernel, by decide +kernel⟩
theorem scz2 : FnScope ["game", "reader", "company", "place"] ["game", "reader"] (dZ sz2) := ⟨rfl, rfl, rfl, by decide +kernel, rfl, by decide +kernel, by decide +kernel⟩
theorem scz3 : FnScope ["game", "reader"] ["game", "reader"] (dZ sz3) := ⟨rfl, rfl, rfl, by decide +kernel, rfl, by decide +kernel, by decide +kernel⟩
theorem scz4 : FnScope ["game", "reader", "place"] ["game", "reader"] (dZ sz4) := ⟨rfl, rfl, rfl, by decide +kernel, rfl, by decide +kernel, by decide +kernel⟩
theorem scz5 : FnScope ["game", "reader"] ["game", "reader"] (dZ sz5) := ⟨rfl, rfl, rfl, by decide +kernel, rfl, by decide +kernel, by decide +kernel⟩
theorem scz6 : FnScope ["game", "reader"] ["game", "reader"] (dZ sz6) := ⟨rfl, rfl, rfl, by decide +kernel, rfl, by decide +kernel, by decide +kernel⟩
theorem scz7 : FnScope ["game", "reader", "place", "moves"] ["game", "reader"] (dZ sz7) := ⟨rfl, rfl, rfl, by decide +kernel, rfl, by decide +kernel, by decide +kernel⟩
theorem scz8 : FnScope ["game", "reader", "one", "two", "place"] ["game", "reader"] (dZ sz8) := ⟨rfl, rfl, rfl, by decide +kernel, rfl, by decide +kernel, by decide +kernel⟩
theorem scz9 : FnScope ["game", "reader", "start", "goal", "count"] ["game", "reader"] (dZ sz9) := ⟨rfl, rfl, rfl, by decide +kernel, rfl, by decide +kernel, by decide +kernel⟩
theorem scya : FnScope ["game", "reader"] ["game", "reader"] (dZ sya) := ⟨rfl, rfl, rfl, by decide +kernel, rfl, by decide +kernel, by decide +kernel⟩
theorem scyb : FnScope ["game", "reader", "shares", "company"] ["game", "reader"] (dZ syb) := ⟨rfl, rfl, rfl, by decide +kernel, rfl, by decide +kernel, by decide +kernel⟩
theorem scyc : FnScope ["game", "reader", "one", "two", "acting"] ["game", "reader"] (dZ syc) := ⟨rfl, rfl, rfl, by decide +kernel, rfl, by decide +kernel, by decide +kernel⟩
theorem scyd : FnScope ["game", "reader", "rows", "cells"] ["game", "reader"] (dZ syd) := ⟨rfl, rfl, rfl, by decide +kernel, rfl, by decide +kernel, by decide +kernel⟩
theorem scye : FnScope ["game", "calls", "reader", "answered", "answer_call"] ["game", "calls"] (dZ sye) := ⟨rfl, rfl, rfl, by decide +kernel, rfl, by decide +kernel, by decide +kernel⟩
theorem scyf : FnScope ["calls"] ["calls"] (dZ syf) := ⟨rfl, rfl, rfl, by decide +kernel, rfl, by decide +kernel, by decide +kernel⟩
theorem bt_all : bootBuiltins "all" = some (.builtin "all") := by decide +kernel
theorem bt_dict : bootBuiltins "dict" = some (.type "dict") := by decide +kernel
theorem bt_len : bootBuiltins "len" = some (.builtin "len") := by decide +kernel
theorem bt_list : bootBuiltins "list" = some (.type "list") := by decide +kernel
theorem bt_ord : bootBuiltins "ord" = some (.builtin "ord") := by decide +kernel
theorem bt_set : bootBuiltins "set" = some (.type "set") := by decide +kernel
theorem bt_sorted : bootBuiltins "sorted" = some (.builtin "sorted") := by decide +kernel
theorem bt_str : bootBuiltins "str" = some (.type "str") := by decide +kernel
theorem bt_sum : bootBuiltins "sum" = some (.builtin "sum") := by decide +kernel
theorem bt_tuple : bootBuiltins "tuple" = some (.type "tuple") := by decide +kernel
end Pb
namespace Pb
open PySem PySem.Spec PyProof.Rows L2
abbrev fo (x q : Str) (st : Stmt) (kV doc pm : Value) (an : Option Addr) (cd ct : Value) : FuncData := W.fnOf x q (defArgs st) (defBody st) (dZ st) .none kV doc pm an cd ct
theorem txt_mk {K : W.Frag} {h : Heap} {mg : Str → Option Value} (X : K.In h) (G : h.Ns mainGlobals mg) {cGrid cMarkers cGame cReading cReader aza azb azc azd aze azf azg azh azi azj azk azl azm azn azo azp azq azr azs azt azu azv azw azx azy azz azA azB azC azD azE azF azG azH azI azJ azK azL azM azN azO azP azQ azR azS azT azU azV azW azX azY azZ az0 az1 az2 az3 az4 az5 az6 az7 az8 az9 aya ayb ayc ayd aye ayf axe axi axJ cOrd pT : Addr} {ocza kVza dcza pmza cdza ctza oczb kVzb dczb pmzb cdzb ctzb oczc kVzc dczc pmzc cdzc ctzc oczd kVzd dczd pmzd cdzd ctzd ocze kVze dcze pmze cdze ctze oczf kVzf dczf pmzf cdzf ctzf oczg kVzg dczg pmzg cdzg ctzg oczh kVzh dczh pmzh cdzh ctzh oczi kVzi dczi pmzi cdzi ctzi oczj kVzj dczj pmzj cdzj ctzj oczk kVzk dczk pmzk cdzk ctzk oczl kVzl dczl pmzl cdzl ctzl oczm kVzm dczm pmzm cdzm ctzm oczn kVzn dczn pmzn cdzn ctzn oczo kVzo dczo pmzo cdzo ctzo oczp kVzp dczp pmzp cdzp ctzp oczq kVzq dczq pmzq cdzq ctzq oczr kVzr dczr pmzr cdzr ctzr oczs kVzs dczs pmzs cdzs ctzs oczt kVzt dczt pmzt cdzt ctzt oczu kVzu dczu pmzu cdzu ctzu oczv kVzv dczv pmzv cdzv ctzv oczw kVzw dczw pmzw cdzw ctzw oczx kVzx dczx pmzx cdzx ctzx oczy kVzy dczy pmzy cdzy ctzy oczz kVzz dczz pmzz cdzz ctzz oczA kVzA dczA pmzA cdzA ctzA oczB kVzB dczB pmzB cdzB ctzB oczC kVzC dczC pmzC cdzC ctzC oczD kVzD dczD pmzD cdzD ctzD oczE kVzE dczE pmzE cdzE ctzE oczF kVzF dczF pmzF cdzF ctzF oczG kVzG dczG pmzG cdzG ctzG oczH kVzH dczH pmzH cdzH ctzH oczI kVzI dczI pmzI cdzI ctzI oczJ kVzJ dczJ pmzJ cdzJ ctzJ oczK kVzK dczK pmzK cdzK ctzK oczL kVzL dczL pmzL cdzL ctzL oczM kVzM dczM pmzM cdzM ctzM oczN kVzN dczN pmzN cdzN ctzN oczO kVzO dczO pmzO cdzO ctzO oczP kVzP dczP pmzP cdzP ctzP oczQ kVzQ dczQ pmzQ cdzQ ctzQ oczR kVzR dczR pmzR cdzR ctzR oczS kVzS dczS pmzS cdzS ctzS oczT kVzT dczT pmzT cdzT ctzT oczU kVzU dczU pmzU cdzU ctzU oczV kVzV dczV pmzV cdzV ctzV oczW kVzW dczW pmzW cdzW ctzW oczX kVzX dczX pmzX cdzX ctzX oczY kVzY dczY pmzY cdzY ctzY oczZ kVzZ dczZ pmzZ cdzZ ctzZ ocz0 kVz0 dcz0 pmz0 cdz0 ctz0 ocz1 kVz1 dcz1 pmz1 cdz1 ctz1 ocz2 kVz2 dcz2 pmz2 cdz2 ctz2 ocz3 kVz3 dcz3 pmz3 cdz3 ctz3 ocz4 kVz4 dcz4 pmz4 cdz4 ctz4 ocz5 kVz5 dcz5 pmz5 cdz5 ctz5 ocz6 kVz6 dcz6 pmz6 cdz6 ctz6 ocz7 kVz7 dcz7 pmz7 cdz7 ctz7 ocz8 kVz8 dcz8 pmz8 cdz8 ctz8 ocz9 kVz9 dcz9 pmz9 cdz9 ctz9 ocya kVya dcya pmya cdya ctya ocyb kVyb dcyb pmyb cdyb ctyb ocyc kVyc dcyc pmyc cdyc ctyc ocyd kVyd dcyd pmyd cdyd ctyd ocye kVye dcye pmye cdye ctye ocyf kVyf dcyf pmyf cdyf ctyf : Value} {odza anza odzb anzb odzc anzc odzd anzd odze anze odzf anzf odzg anzg odzh anzh odzi anzi odzj anzj odzk anzk odzl anzl odzm anzm odzn anzn odzo anzo odzp anzp odzq anzq odzr anzr odzs anzs odzt anzt odzu anzu odzv anzv odzw anzw odzx anzx odzy anzy odzz anzz odzA anzA odzB anzB odzC anzC odzD anzD odzE anzE odzF anzF odzG anzG odzH anzH odzI anzI odzJ anzJ odzK anzK odzL anzL odzM anzM odzN anzN odzO anzO odzP anzP odzQ anzQ odzR anzR odzS anzS odzT anzT odzU anzU odzV anzV odzW anzW odzX anzX odzY anzY odzZ anzZ odz0 anz0 odz1 anz1 odz2 anz2 odz3 anz3 odz4 anz4 odz5 anz5 odz6 anz6 odz7 anz7 odz8 anz8 odz9 anz9 odya anya odyb anyb odyc anyc odyd anyd odye anye odyf anyf odMOVES odLETTERS odCALLS : Option Addr} {slza slzb slzc slzd slze slzf slzg slzh slzi slzj slzk slzl slzm slzn slzo slzp slzq slzr slzs slzt slzu slzv slzw slzx slzy slzz slzA slzB slzC slzD slzE slzF slzG slzH slzI slzJ slzK slzL slzM slzN slzO slzP slzQ slzR slzS slzT slzU slzV slzW slzX slzY slzZ slz0 slz1 slz2 slz3 slz4 slz5 slz6 slz7 slz8 slz9 slya slyb slyc slyd slye slyf slMOVES slLETTERS slCALLS : Array (Option Value)} {kxa kxb kxc kxd tMOVES_0 tMOVES_1 tMOVES_2 tMOVES_3 kxf kxg kxh tLETTERS_0 tLETTERS_1 tLETTERS_2 tLETTERS_3 kxj kxk kxl kxm kxn kxo kxp kxq kxr kxs kxt kxu kxv kxw kxx kxy kxz kxA kxB kxC kxD kxE kxF kxG kxH kxI : Tok} {nMOVES nLETTERS nCALLS : Nat}
  (acGrid : W.nsIn K mainGlobals "Grid" = some (some (.ref cGrid)))
  (acMarkers : W.nsIn K mainGlobals "Markers" = some (some (.ref cMarkers)))
  (acGame : W.nsIn K mainGlobals "Game" = some (some (.ref cGame)))
  (acReading : W.nsIn K mainGlobals "Reading" = some (some (.ref cReading)))
  (acReader : W.nsIn K mainGlobals "Reader" = some (some (.ref cReader)))
  (a_za : W.findIn K (.ref cGrid) "__init__" = some (some (.ref aza)))
  (i_za : W.isFn K (.ref aza) = true)
  (l_za : K.lookup aza = some ⟨ocza, odza, .func (fo "__init__" "Grid.__init__" sza kVza dcza pmza anza cdza ctza), slza⟩)
  (c_za : W.codeIn K cdza "Grid.__init__" = true)
  (k_za : W.keepIn K (.ref aza) = true)
  (a_zb : W.findIn K (.ref cGrid) "has" = some (some (.ref azb)))
  (i_zb : W.isFn K (.ref azb) = true)
  (l_zb : K.lookup azb = some ⟨oczb, odzb, .func (fo "has" "Grid.has" szb kVzb dczb pmzb anzb cdzb ctzb), slzb⟩)
  (c_zb : W.codeIn K cdzb "Grid.has" = true)
  (k_zb : W.keepIn K (.ref azb) = true)
  (a_zc : W.findIn K (.ref cGrid) "all_places" = some (some (.ref azc)))
  (i_zc : W.isFn K (.ref azc) = true)
  (l_zc : K.lookup azc = some ⟨oczc, odzc, .func (fo "all_places" "Grid.all_places" szc kVzc dczc pmzc anzc cdzc ctzc), slzc⟩)
  (c_zc : W.codeIn K cdzc "Grid.all_places" = true)
  (k_zc : W.keepIn K (.ref azc) = true)
  (a_zd : W.findIn K (.ref cGrid) "price" = some (some (.ref azd)))
  (i_zd : W.isFn K (.ref azd) = true)
  (l_zd : K.lookup azd = some ⟨oczd, odzd, .func (fo "price" "Grid.price" szd kVzd dczd pmzd anzd cdzd ctzd), slzd⟩)
  (c_zd : W.codeIn K cdzd "Grid.price" = true)
  (k_zd : W.keepIn K (.ref azd) = true)
  (a_ze : W.findIn K (.ref cGrid) "letters" = some (some (.ref aze)))
  (i_ze : W.isFn K (.ref aze) = true)
  (l_ze : K.lookup aze = some ⟨ocze, odze, .func (fo "letters" "Grid.letters" sze kVze dcze pmze anze cdze ctze), slze⟩)
  (c_ze : W.codeIn K cdze "Grid.letters" = true)
  (k_ze : W.keepIn K (.ref aze) = true)
  (a_zf : W.findIn K (.ref cGrid) "step" = some (some (.ref azf)))
  (i_zf : W.isFn K (.ref azf) = true)
  (l_zf : K.lookup azf = some ⟨oczf, odzf, .func (fo "step" "Grid.step" szf kVzf dczf pmzf anzf cdzf ctzf), slzf⟩)
  (c_zf : W.codeIn K cdzf "Grid.step" = true)
  (k_zf : W.keepIn K (.ref azf) = true)
  (a_zg : W.findIn K (.ref cGrid) "walk" = some (some (.ref azg)))
  (i_zg : W.isFn K (.ref azg) = true)
  (l_zg : K.lookup azg = some ⟨oczg, odzg, .func (fo "walk" "Grid.walk" szg kVzg dczg pmzg anzg cdzg ctzg), slzg⟩)
  (c_zg : W.codeIn K cdzg "Grid.walk" = true)
  (k_zg : W.keepIn K (.ref azg) = true)
  (a_zh : W.findIn K (.ref cGrid) "beyond" = some (some (.ref azh)))
  (i_zh : W.isFn K (.ref azh) = true)
  (l_zh : K.lookup azh = some ⟨oczh, odzh, .func (fo "beyond" "Grid.beyond" szh kVzh dczh pmzh anzh cdzh ctzh), slzh⟩)
  (c_zh : W.codeIn K cdzh "Grid.beyond" = true)
  (k_zh : W.keepIn K (.ref azh) = true)
  (a_zi : W.findIn K (.ref cGrid) "least_moves" = some (some (.ref azi)))
  (i_zi : W.isFn K (.ref azi) = true)
  (l_zi : K.lookup azi = some ⟨oczi, odzi, .func (fo "least_moves" "Grid.least_moves" szi kVzi dczi pmzi anzi cdzi ctzi), slzi⟩)
  (c_zi : W.codeIn K cdzi "Grid.least_moves" = true)
  (k_zi : W.keepIn K (.ref azi) = true)
  (a_zj : W.findIn K (.ref cMarkers) "__init__" = some (some (.ref azj)))
  (i_zj : W.isFn K (.ref azj) = true)
  (l_zj : K.lookup azj = some ⟨oczj, odzj, .func (fo "__init__" "Markers.__init__" szj kVzj dczj pmzj anzj cdzj ctzj), slzj⟩)
  (c_zj : W.codeIn K cdzj "Markers.__init__" = true)
  (k_zj : W.keepIn K (.ref azj) = true)
  (a_zk : W.findIn K (.ref cMarkers) "copied" = some (some (.ref azk)))
  (i_zk : W.isFn K (.ref azk) = true)
  (l_zk : K.lookup azk = some ⟨oczk, odzk, .func (fo "copied" "Markers.copied" szk kVzk dczk pmzk anzk cdzk ctzk), slzk⟩)
  (c_zk : W.codeIn K cdzk "Markers.copied" = true)
  (k_zk : W.keepIn K (.ref azk) = true)
  (a_zl : W.findIn K (.ref cMarkers) "put" = some (some (.ref azl)))
  (i_zl : W.isFn K (.ref azl) = true)
  (l_zl : K.lookup azl = some ⟨oczl, odzl, .func (fo "put" "Markers.put" szl kVzl dczl pmzl anzl cdzl ctzl), slzl⟩)
  (c_zl : W.codeIn K cdzl "Markers.put" = true)
  (k_zl : W.keepIn K (.ref azl) = true)
  (a_zm : W.findIn K (.ref cMarkers) "send" = some (some (.ref azm)))
  (i_zm : W.isFn K (.ref azm) = true)
  (l_zm : K.lookup azm = some ⟨oczm, odzm, .func (fo "send" "Markers.send" szm kVzm dczm pmzm anzm cdzm ctzm), slzm⟩)
  (c_zm : W.codeIn K cdzm "Markers.send" = true)
  (k_zm : W.keepIn K (.ref azm) = true)
  (a_zn : W.findIn K (.ref cMarkers) "stack" = some (some (.ref azn)))
  (i_zn : W.isFn K (.ref azn) = true)
  (l_zn : K.lookup azn = some ⟨oczn, odzn, .func (fo "stack" "Markers.stack" szn kVzn dczn pmzn anzn cdzn ctzn), slzn⟩)
  (c_zn : W.codeIn K cdzn "Markers.stack" = true)
  (k_zn : W.keepIn K (.ref azn) = true)
  (a_zo : W.findIn K (.ref cMarkers) "order" = some (some (.ref azo)))
  (i_zo : W.isFn K (.ref azo) = true)
  (l_zo : K.lookup azo = some ⟨oczo, odzo, .func (fo "order" "Markers.order" szo kVzo dczo pmzo anzo cdzo ctzo), slzo⟩)
  (c_zo : W.codeIn K cdzo "Markers.order" = true)
  (k_zo : W.keepIn K (.ref azo) = true)
  (a_zp : W.findIn K (.ref cGame) "__init__" = some (some (.ref azp)))
  (i_zp : W.isFn K (.ref azp) = true)
  (l_zp : K.lookup azp = some ⟨oczp, odzp, .func (fo "__init__" "Game.__init__" szp kVzp dczp pmzp anzp cdzp ctzp), slzp⟩)
  (c_zp : W.codeIn K cdzp "Game.__init__" = true)
  (k_zp : W.keepIn K (.ref azp) = true)
  (a_zq : W.findIn K (.ref cGame) "lay" = some (some (.ref azq)))
  (i_zq : W.isFn K (.ref azq) = true)
  (l_zq : K.lookup azq = some ⟨oczq, odzq, .func (fo "lay" "Game.lay" szq kVzq dczq pmzq anzq cdzq ctzq), slzq⟩)
  (c_zq : W.codeIn K cdzq "Game.lay" = true)
  (k_zq : W.keepIn K (.ref azq) = true)
  (a_zr : W.findIn K (.ref cGame) "record_change" = some (some (.ref azr)))
  (i_zr : W.isFn K (.ref azr) = true)
  (l_zr : K.lookup azr = some ⟨oczr, odzr, .func (fo "record_change" "Game.record_change" szr kVzr dczr pmzr anzr cdzr ctzr), slzr⟩)
  (c_zr : W.codeIn K cdzr "Game.record_change" = true)
  (k_zr : W.keepIn K (.ref azr) = true)
  (a_zs : W.findIn K (.ref cGame) "take_back" = some (some (.ref azs)))
  (i_zs : W.isFn K (.ref azs) = true)
  (l_zs : K.lookup azs = some ⟨oczs, odzs, .func (fo "take_back" "Game.take_back" szs kVzs dczs pmzs anzs cdzs ctzs), slzs⟩)
  (c_zs : W.codeIn K cdzs "Game.take_back" = true)
  (k_zs : W.keepIn K (.ref azs) = true)
  (a_zt : W.findIn K (.ref cReading) "__init__" = some (some (.ref azt)))
  (i_zt : W.isFn K (.ref azt) = true)
  (l_zt : K.lookup azt = some ⟨oczt, odzt, .func (fo "__init__" "Reading.__init__" szt kVzt dczt pmzt anzt cdzt ctzt), slzt⟩)
  (c_zt : W.codeIn K cdzt "Reading.__init__" = true)
  (k_zt : W.keepIn K (.ref azt) = true)
  (a_zu : W.nsIn K mainGlobals "parted" = some (some (.ref azu)))
  (l_zu : K.lookup azu = some ⟨oczu, odzu, .func (fo "parted" "parted" szu kVzu dczu pmzu anzu cdzu ctzu), slzu⟩)
  (c_zu : W.codeIn K cdzu "parted" = true)
  (k_zu : W.keepIn K (.ref azu) = true)
  (a_zv : W.nsIn K mainGlobals "lines_of" = some (some (.ref azv)))
  (l_zv : K.lookup azv = some ⟨oczv, odzv, .func (fo "lines_of" "lines_of" szv kVzv dczv pmzv anzv cdzv ctzv), slzv⟩)
  (c_zv : W.codeIn K cdzv "lines_of" = true)
  (k_zv : W.keepIn K (.ref azv) = true)
  (a_zw : W.nsIn K mainGlobals "words_of" = some (some (.ref azw)))
  (l_zw : K.lookup azw = some ⟨oczw, odzw, .func (fo "words_of" "words_of" szw kVzw dczw pmzw anzw cdzw ctzw), slzw⟩)
  (c_zw : W.codeIn K cdzw "words_of" = true)
  (k_zw : W.keepIn K (.ref azw) = true)
  (a_zx : W.nsIn K mainGlobals "read_price" = some (some (.ref azx)))
  (l_zx : K.lookup azx = some ⟨oczx, odzx, .func (fo "read_price" "read_price" szx kVzx dczx pmzx anzx cdzx ctzx), slzx⟩)
  (c_zx : W.codeIn K cdzx "read_price" = true)
  (k_zx : W.keepIn K (.ref azx) = true)
  (a_zy : W.nsIn K mainGlobals "are_letters" = some (some (.ref azy)))
  (l_zy : K.lookup azy = some ⟨oczy, odzy, .func (fo "are_letters" "are_letters" szy kVzy dczy pmzy anzy cdzy ctzy), slzy⟩)
  (c_zy : W.codeIn K cdzy "are_letters" = true)
  (k_zy : W.keepIn K (.ref azy) = true)
  (a_zz : W.nsIn K mainGlobals "read_cell" = some (some (.ref azz)))
  (l_zz : K.lookup azz = some ⟨oczz, odzz, .func (fo "read_cell" "read_cell" szz kVzz dczz pmzz anzz cdzz ctzz), slzz⟩)
  (c_zz : W.codeIn K cdzz "read_cell" = true)
  (k_zz : W.keepIn K (.ref azz) = true)
  (a_zA : W.nsIn K mainGlobals "rises" = some (some (.ref azA)))
  (l_zA : K.lookup azA = some ⟨oczA, odzA, .func (fo "rises" "rises" szA kVzA dczA pmzA anzA cdzA ctzA), slzA⟩)
  (c_zA : W.codeIn K cdzA "rises" = true)
  (k_zA : W.keepIn K (.ref azA) = true)
  (a_zB : W.nsIn K mainGlobals "fits_under" = some (some (.ref azB)))
  (l_zB : K.lookup azB = some ⟨oczB, odzB, .func (fo "fits_under" "fits_under" szB kVzB dczB pmzB anzB cdzB ctzB), slzB⟩)
  (c_zB : W.codeIn K cdzB "fits_under" = true)
  (k_zB : W.keepIn K (.ref azB) = true)
  (a_zC : W.nsIn K mainGlobals "read_row" = some (some (.ref azC)))
  (l_zC : K.lookup azC = some ⟨oczC, odzC, .func (fo "read_row" "read_row" szC kVzC dczC pmzC anzC cdzC ctzC), slzC⟩)
  (c_zC : W.codeIn K cdzC "read_row" = true)
  (k_zC : W.keepIn K (.ref azC) = true)
  (a_zD : W.nsIn K mainGlobals "is_plain" = some (some (.ref azD)))
  (l_zD : K.lookup azD = some ⟨oczD, odzD, .func (fo "is_plain" "is_plain" szD kVzD dczD pmzD anzD cdzD ctzD), slzD⟩)
  (c_zD : W.codeIn K cdzD "is_plain" = true)
  (k_zD : W.keepIn K (.ref azD) = true)
  (a_zE : W.nsIn K mainGlobals "take_line" = some (some (.ref azE)))
  (l_zE : K.lookup azE = some ⟨oczE, odzE, .func (fo "take_line" "take_line" szE kVzE dczE pmzE anzE cdzE ctzE), slzE⟩)
  (c_zE : W.codeIn K cdzE "take_line" = true)
  (k_zE : W.keepIn K (.ref azE) = true)
  (a_zF : W.nsIn K mainGlobals "read_board" = some (some (.ref azF)))
  (l_zF : K.lookup azF = some ⟨oczF, odzF, .func (fo "read_board" "read_board" szF kVzF dczF pmzF anzF cdzF ctzF), slzF⟩)
  (c_zF : W.codeIn K cdzF "read_board" = true)
  (k_zF : W.keepIn K (.ref azF) = true)
  (a_zG : W.nsIn K mainGlobals "printed_cell" = some (some (.ref azG)))
  (l_zG : K.lookup azG = some ⟨oczG, odzG, .func (fo "printed_cell" "printed_cell" szG kVzG dczG pmzG anzG cdzG ctzG), slzG⟩)
  (c_zG : W.codeIn K cdzG "printed_cell" = true)
  (k_zG : W.keepIn K (.ref azG) = true)
  (a_zH : W.nsIn K mainGlobals "printed_board" = some (some (.ref azH)))
  (l_zH : K.lookup azH = some ⟨oczH, odzH, .func (fo "printed_board" "printed_board" szH kVzH dczH pmzH anzH cdzH ctzH), slzH⟩)
  (c_zH : W.codeIn K cdzH "printed_board" = true)
  (k_zH : W.keepIn K (.ref azH) = true)
  (a_zI : W.findIn K (.ref cReader) "__init__" = some (some (.ref azI)))
  (i_zI : W.isFn K (.ref azI) = true)
  (l_zI : K.lookup azI = some ⟨oczI, odzI, .func (fo "__init__" "Reader.__init__" szI kVzI dczI pmzI anzI cdzI ctzI), slzI⟩)
  (c_zI : W.codeIn K cdzI "Reader.__init__" = true)
  (k_zI : W.keepIn K (.ref azI) = true)
  (a_zJ : W.findIn K (.ref cReader) "has_more" = some (some (.ref azJ)))
  (i_zJ : W.isFn K (.ref azJ) = true)
  (l_zJ : K.lookup azJ = some ⟨oczJ, odzJ, .func (fo "has_more" "Reader.has_more" szJ kVzJ dczJ pmzJ anzJ cdzJ ctzJ), slzJ⟩)
  (c_zJ : W.codeIn K cdzJ "Reader.has_more" = true)
  (k_zJ : W.keepIn K (.ref azJ) = true)
  (a_zK : W.findIn K (.ref cReader) "take_number" = some (some (.ref azK)))
  (i_zK : W.isFn K (.ref azK) = true)
  (l_zK : K.lookup azK = some ⟨oczK, odzK, .func (fo "take_number" "Reader.take_number" szK kVzK dczK pmzK anzK cdzK ctzK), slzK⟩)
  (c_zK : W.codeIn K cdzK "Reader.take_number" = true)
  (k_zK : W.keepIn K (.ref azK) = true)
  (a_zL : W.findIn K (.ref cReader) "take_place" = some (some (.ref azL)))
  (i_zL : W.isFn K (.ref azL) = true)
  (l_zL : K.lookup azL = some ⟨oczL, odzL, .func (fo "take_place" "Reader.take_place" szL kVzL dczL pmzL anzL cdzL ctzL), slzL⟩)
  (c_zL : W.codeIn K cdzL "Reader.take_place" = true)
  (k_zL : W.keepIn K (.ref azL) = true)
  (a_zM : W.findIn K (.ref cReader) "take_list" = some (some (.ref azM)))
  (i_zM : W.isFn K (.ref azM) = true)
  (l_zM : K.lookup azM = some ⟨oczM, odzM, .func (fo "take_list" "Reader.take_list" szM kVzM dczM pmzM anzM cdzM ctzM), slzM⟩)
  (c_zM : W.codeIn K cdzM "Reader.take_list" = true)
  (k_zM : W.keepIn K (.ref azM) = true)
  (a_zN : W.nsIn K mainGlobals "with_count" = some (some (.ref azN)))
  (l_zN : K.lookup azN = some ⟨oczN, odzN, .func (fo "with_count" "with_count" szN kVzN dczN pmzN anzN cdzN ctzN), slzN⟩)
  (c_zN : W.codeIn K cdzN "with_count" = true)
  (k_zN : W.keepIn K (.ref azN) = true)
  (a_zO : W.nsIn K mainGlobals "has_marker" = some (some (.ref azO)))
  (l_zO : K.lookup azO = some ⟨oczO, odzO, .func (fo "has_marker" "has_marker" szO kVzO dczO pmzO anzO cdzO ctzO), slzO⟩)
  (c_zO : W.codeIn K cdzO "has_marker" = true)
  (k_zO : W.keepIn K (.ref azO) = true)
  (a_zP : W.nsIn K mainGlobals "price_of" = some (some (.ref azP)))
  (l_zP : K.lookup azP = some ⟨oczP, odzP, .func (fo "price_of" "price_of" szP kVzP dczP pmzP anzP cdzP ctzP), slzP⟩)
  (c_zP : W.codeIn K cdzP "price_of" = true)
  (k_zP : W.keepIn K (.ref azP) = true)
  (a_zQ : W.nsIn K mainGlobals "are_moves" = some (some (.ref azQ)))
  (l_zQ : K.lookup azQ = some ⟨oczQ, odzQ, .func (fo "are_moves" "are_moves" szQ kVzQ dczQ pmzQ anzQ cdzQ ctzQ), slzQ⟩)
  (c_zQ : W.codeIn K cdzQ "are_moves" = true)
  (k_zQ : W.keepIn K (.ref azQ) = true)
  (a_zR : W.nsIn K mainGlobals "are_shares" = some (some (.ref azR)))
  (l_zR : K.lookup azR = some ⟨oczR, odzR, .func (fo "are_shares" "are_shares" szR kVzR dczR pmzR anzR cdzR ctzR), slzR⟩)
  (c_zR : W.codeIn K cdzR "are_shares" = true)
  (k_zR : W.keepIn K (.ref azR) = true)
  (a_zS : W.nsIn K mainGlobals "send_marker" = some (some (.ref azS)))
  (l_zS : K.lookup azS = some ⟨oczS, odzS, .func (fo "send_marker" "send_marker" szS kVzS dczS pmzS anzS cdzS ctzS), slzS⟩)
  (c_zS : W.codeIn K cdzS "send_marker" = true)
  (k_zS : W.keepIn K (.ref azS) = true)
  (a_zT : W.nsIn K mainGlobals "load" = some (some (.ref azT)))
  (l_zT : K.lookup azT = some ⟨oczT, odzT, .func (fo "load" "load" szT kVzT dczT pmzT anzT cdzT ctzT), slzT⟩)
  (c_zT : W.codeIn K cdzT "load" = true)
  (k_zT : W.keepIn K (.ref azT) = true)
  (a_zU : W.nsIn K mainGlobals "tell_board" = some (some (.ref azU)))
  (l_zU : K.lookup azU = some ⟨oczU, odzU, .func (fo "tell_board" "tell_board" szU kVzU dczU pmzU anzU cdzU ctzU), slzU⟩)
  (c_zU : W.codeIn K cdzU "tell_board" = true)
  (k_zU : W.keepIn K (.ref azU) = true)
  (a_zV : W.nsIn K mainGlobals "tell_cell" = some (some (.ref azV)))
  (l_zV : K.lookup azV = some ⟨oczV, odzV, .func (fo "tell_cell" "tell_cell" szV kVzV dczV pmzV anzV cdzV ctzV), slzV⟩)
  (c_zV : W.codeIn K cdzV "tell_cell" = true)
  (k_zV : W.keepIn K (.ref azV) = true)
  (a_zW : W.nsIn K mainGlobals "begin" = some (some (.ref azW)))
  (l_zW : K.lookup azW = some ⟨oczW, odzW, .func (fo "begin" "begin" szW kVzW dczW pmzW anzW cdzW ctzW), slzW⟩)
  (c_zW : W.codeIn K cdzW "begin" = true)
  (k_zW : W.keepIn K (.ref azW) = true)
  (a_zX : W.nsIn K mainGlobals "sell" = some (some (.ref azX)))
  (l_zX : K.lookup azX = some ⟨oczX, odzX, .func (fo "sell" "sell" szX kVzX dczX pmzX anzX cdzX ctzX), slzX⟩)
  (c_zX : W.codeIn K cdzX "sell" = true)
  (k_zX : W.keepIn K (.ref azX) = true)
  (a_zY : W.nsIn K mainGlobals "pay" = some (some (.ref azY)))
  (l_zY : K.lookup azY = some ⟨oczY, odzY, .func (fo "pay" "pay" szY kVzY dczY pmzY anzY cdzY ctzY), slzY⟩)
  (c_zY : W.codeIn K cdzY "pay" = true)
  (k_zY : W.keepIn K (.ref azY) = true)
  (a_zZ : W.nsIn K mainGlobals "sold_out" = some (some (.ref azZ)))
  (l_zZ : K.lookup azZ = some ⟨oczZ, odzZ, .func (fo "sold_out" "sold_out" szZ kVzZ dczZ pmzZ anzZ cdzZ ctzZ), slzZ⟩)
  (c_zZ : W.codeIn K cdzZ "sold_out" = true)
  (k_zZ : W.keepIn K (.ref azZ) = true)
  (a_z0 : W.nsIn K mainGlobals "make_moves" = some (some (.ref az0)))
  (l_z0 : K.lookup az0 = some ⟨ocz0, odz0, .func (fo "make_moves" "make_moves" sz0 kVz0 dcz0 pmz0 anz0 cdz0 ctz0), slz0⟩)
  (c_z0 : W.codeIn K cdz0 "make_moves" = true)
  (k_z0 : W.keepIn K (.ref az0) = true)
  (a_z1 : W.nsIn K mainGlobals "tell_price" = some (some (.ref az1)))
  (l_z1 : K.lookup az1 = some ⟨ocz1, odz1, .func (fo "tell_price" "tell_price" sz1 kVz1 dcz1 pmz1 anz1 cdz1 ctz1), slz1⟩)
  (c_z1 : W.codeIn K cdz1 "tell_price" = true)
  (k_z1 : W.keepIn K (.ref az1) = true)
  (a_z2 : W.nsIn K mainGlobals "tell_place" = some (some (.ref az2)))
  (l_z2 : K.lookup az2 = some ⟨ocz2, odz2, .func (fo "tell_place" "tell_place" sz2 kVz2 dcz2 pmz2 anz2 cdz2 ctz2), slz2⟩)
  (c_z2 : W.codeIn K cdz2 "tell_place" = true)
  (k_z2 : W.keepIn K (.ref az2) = true)
  (a_z3 : W.nsIn K mainGlobals "tell_order" = some (some (.ref az3)))
  (l_z3 : K.lookup az3 = some ⟨ocz3, odz3, .func (fo "tell_order" "tell_order" sz3 kVz3 dcz3 pmz3 anz3 cdz3 ctz3), slz3⟩)
  (c_z3 : W.codeIn K cdz3 "tell_order" = true)
  (k_z3 : W.keepIn K (.ref az3) = true)
  (a_z4 : W.nsIn K mainGlobals "tell_stack" = some (some (.ref az4)))
  (l_z4 : K.lookup az4 = some ⟨ocz4, odz4, .func (fo "tell_stack" "tell_stack" sz4 kVz4 dcz4 pmz4 anz4 cdz4 ctz4), slz4⟩)
  (c_z4 : W.codeIn K cdz4 "tell_stack" = true)
  (k_z4 : W.keepIn K (.ref az4) = true)
  (a_z5 : W.nsIn K mainGlobals "tell_closed" = some (some (.ref az5)))
  (l_z5 : K.lookup az5 = some ⟨ocz5, odz5, .func (fo "tell_closed" "tell_closed" sz5 kVz5 dcz5 pmz5 anz5 cdz5 ctz5), slz5⟩)
  (c_z5 : W.codeIn K cdz5 "tell_closed" = true)
  (k_z5 : W.keepIn K (.ref az5) = true)
  (a_z6 : W.nsIn K mainGlobals "tell_ended" = some (some (.ref az6)))
  (l_z6 : K.lookup az6 = some ⟨ocz6, odz6, .func (fo "tell_ended" "tell_ended" sz6 kVz6 dcz6 pmz6 anz6 cdz6 ctz6), slz6⟩)
  (c_z6 : W.codeIn K cdz6 "tell_ended" = true)
  (k_z6 : W.keepIn K (.ref az6) = true)
  (a_z7 : W.nsIn K mainGlobals "tell_reach" = some (some (.ref az7)))
  (l_z7 : K.lookup az7 = some ⟨ocz7, odz7, .func (fo "tell_reach" "tell_reach" sz7 kVz7 dcz7 pmz7 anz7 cdz7 ctz7), slz7⟩)
  (c_z7 : W.codeIn K cdz7 "tell_reach" = true)
  (k_z7 : W.keepIn K (.ref az7) = true)
  (a_z8 : W.nsIn K mainGlobals "tell_same" = some (some (.ref az8)))
  (l_z8 : K.lookup az8 = some ⟨ocz8, odz8, .func (fo "tell_same" "tell_same" sz8 kVz8 dcz8 pmz8 anz8 cdz8 ctz8), slz8⟩)
  (c_z8 : W.codeIn K cdz8 "tell_same" = true)
  (k_z8 : W.keepIn K (.ref az8) = true)
  (a_z9 : W.nsIn K mainGlobals "tell_steps" = some (some (.ref az9)))
  (l_z9 : K.lookup az9 = some ⟨ocz9, odz9, .func (fo "tell_steps" "tell_steps" sz9 kVz9 dcz9 pmz9 anz9 cdz9 ctz9), slz9⟩)
  (c_z9 : W.codeIn K cdz9 "tell_steps" = true)
  (k_z9 : W.keepIn K (.ref az9) = true)
  (a_ya : W.nsIn K mainGlobals "undo" = some (some (.ref aya)))
  (l_ya : K.lookup aya = some ⟨ocya, odya, .func (fo "undo" "undo" sya kVya dcya pmya anya cdya ctya), slya⟩)
  (c_ya : W.codeIn K cdya "undo" = true)
  (k_ya : W.keepIn K (.ref aya) = true)
  (a_yb : W.nsIn K mainGlobals "tell_worth" = some (some (.ref ayb)))
  (l_yb : K.lookup ayb = some ⟨ocyb, odyb, .func (fo "tell_worth" "tell_worth" syb kVyb dcyb pmyb anyb cdyb ctyb), slyb⟩)
  (c_yb : W.codeIn K cdyb "tell_worth" = true)
  (k_yb : W.keepIn K (.ref ayb) = true)
  (a_yc : W.nsIn K mainGlobals "tell_first" = some (some (.ref ayc)))
  (l_yc : K.lookup ayc = some ⟨ocyc, odyc, .func (fo "tell_first" "tell_first" syc kVyc dcyc pmyc anyc cdyc ctyc), slyc⟩)
  (c_yc : W.codeIn K cdyc "tell_first" = true)
  (k_yc : W.keepIn K (.ref ayc) = true)
  (a_yd : W.nsIn K mainGlobals "tell_size" = some (some (.ref ayd)))
  (l_yd : K.lookup ayd = some ⟨ocyd, odyd, .func (fo "tell_size" "tell_size" syd kVyd dcyd pmyd anyd cdyd ctyd), slyd⟩)
  (c_yd : W.codeIn K cdyd "tell_size" = true)
  (k_yd : W.keepIn K (.ref ayd) = true)
  (a_ye : W.nsIn K mainGlobals "play" = some (some (.ref aye)))
  (l_ye : K.lookup aye = some ⟨ocye, odye, .func (fo "play" "play" sye kVye dcye pmye anye cdye ctye), slye⟩)
  (c_ye : W.codeIn K cdye "play" = true)
  (k_ye : W.keepIn K (.ref aye) = true)
  (a_yf : W.nsIn K mainGlobals "answers" = some (some (.ref ayf)))
  (l_yf : K.lookup ayf = some ⟨ocyf, odyf, .func (fo "answers" "answers" syf kVyf dcyf pmyf anyf cdyf ctyf), slyf⟩)
  (c_yf : W.codeIn K cdyf "answers" = true)
  (k_yf : W.keepIn K (.ref ayf) = true)
  (pgGrid : W.plainGet K cGrid Str.empty = true)
  (hdGrid : W.hasDictIn K cGrid = true)
  (poGrid : W.plainOver K cGrid = true)
  (saGrid : W.findIn K (.ref cGrid) "__setattr__" = some (some (.builtin "object.__setattr__")))
  (mkGrid : W.makesIn K cGrid = true)
  (kcGrid : W.keepIn K (.ref cGrid) = true)
  (nGr : W.findIn K (.ref cGrid) "rows" = some none)
  (pgMarkers : W.plainGet K cMarkers Str.empty = true)
  (hdMarkers : W.hasDictIn K cMarkers = true)
  (poMarkers : W.plainOver K cMarkers = true)
  (saMarkers : W.findIn K (.ref cMarkers) "__setattr__" = some (some (.builtin "object.__setattr__")))
  (mkMarkers : W.makesIn K cMarkers = true)
  (kcMarkers : W.keepIn K (.ref cMarkers) = true)
  (nMp : W.findIn K (.ref cMarkers) "places" = some none)
  (nMc : W.findIn K (.ref cMarkers) "closed" = some none)
  (nMe : W.findIn K (.ref cMarkers) "ended" = some none)
  (pgGame : W.plainGet K cGame Str.empty = true)
  (hdGame : W.hasDictIn K cGame = true)
  (poGame : W.plainOver K cGame = true)
  (saGame : W.findIn K (.ref cGame) "__setattr__" = some (some (.builtin "object.__setattr__")))
  (mkGame : W.makesIn K cGame = true)
  (kcGame : W.keepIn K (.ref cGame) = true)
  (nGg : W.findIn K (.ref cGame) "grid" = some none)
  (nGm : W.findIn K (.ref cGame) "markers" = some none)
  (nGp : W.findIn K (.ref cGame) "past" = some none)
  (pgReading : W.plainGet K cReading Str.empty = true)
  (hdReading : W.hasDictIn K cReading = true)
  (poReading : W.plainOver K cReading = true)
  (saReading : W.findIn K (.ref cReading) "__setattr__" = some (some (.builtin "object.__setattr__")))
  (mkReading : W.makesIn K cReading = true)
  (kcReading : W.keepIn K (.ref cReading) = true)
  (nRr : W.findIn K (.ref cReading) "rows" = some none)
  (nRw : W.findIn K (.ref cReading) "wrong" = some none)
  (pgReader : W.plainGet K cReader Str.empty = true)
  (hdReader : W.hasDictIn K cReader = true)
  (poReader : W.plainOver K cReader = true)
  (saReader : W.findIn K (.ref cReader) "__setattr__" = some (some (.builtin "object.__setattr__")))
  (mkReader : W.makesIn K cReader = true)
  (kcReader : W.keepIn K (.ref cReader) = true)
  (nRc : W.findIn K (.ref cReader) "calls" = some none)
  (nRp : W.findIn K (.ref cReader) "position" = some none)
  (exa : W.nsIn K mainGlobals "UP" = some (some (.int (1) kxa)))
  (exb : W.nsIn K mainGlobals "RIGHT" = some (some (.int (2) kxb)))
  (exc : W.nsIn K mainGlobals "DOWN" = some (some (.int (3) kxc)))
  (exd : W.nsIn K mainGlobals "LEFT" = some (some (.int (4) kxd)))
  (exe : W.nsIn K mainGlobals "MOVES" = some (some (.ref axe)))
  (lxe : K.lookup axe = some ⟨.type "tuple", odMOVES, .seq #[.int (1) tMOVES_0, .int (2) tMOVES_1, .int (3) tMOVES_2, .int (4) tMOVES_3] nMOVES, slMOVES⟩)
  (exf : W.nsIn K mainGlobals "BEGIN" = some (some (.int (98) kxf)))
  (exg : W.nsIn K mainGlobals "CLOSE" = some (some (.int (99) kxg)))
  (exh : W.nsIn K mainGlobals "END" = some (some (.int (101) kxh)))
  (exi : W.nsIn K mainGlobals "LETTERS" = some (some (.ref axi)))
  (lxi : K.lookup axi = some ⟨.type "tuple", odLETTERS, .seq #[.int (98) tLETTERS_0, .int (99) tLETTERS_1, .int (101) tLETTERS_2, .int (102) tLETTERS_3] nLETTERS, slLETTERS⟩)
  (exj : W.nsIn K mainGlobals "FIRST_PRICE" = some (some (.int (100) kxj)))
  (exk : W.nsIn K mainGlobals "MOST_CHANGES" = some (some (.int (50) kxk)))
  (exl : W.nsIn K mainGlobals "LINE_FEED" = some (some (.int (10) kxl)))
  (exm : W.nsIn K mainGlobals "BLANK" = some (some (.int (32) kxm)))
  (exn : W.nsIn K mainGlobals "LAST_SIGN" = some (some (.int (126) kxn)))
  (exo : W.nsIn K mainGlobals "HASH" = some (some (.int (35) kxo)))
  (exp : W.nsIn K mainGlobals "ZERO" = some (some (.int (48) kxp)))
  (exq : W.nsIn K mainGlobals "NINE" = some (some (.int (57) kxq)))
  (exr : W.nsIn K mainGlobals "MOST_ROWS" = some (some (.int (12) kxr)))
  (exs : W.nsIn K mainGlobals "MOST_CELLS" = some (some (.int (20) kxs)))
  (ext : W.nsIn K mainGlobals "MOST_PRICE" = some (some (.int (10000) kxt)))
  (exu : W.nsIn K mainGlobals "MOST_DIGITS" = some (some (.int (5) kxu)))
  (exv : W.nsIn K mainGlobals "NO_SUCH" = some (some (.int (-1) kxv)))
  (exw : W.nsIn K mainGlobals "OUT_OF_RANGE" = some (some (.int (-2) kxw)))
  (exx : W.nsIn K mainGlobals "WAS_CLOSED" = some (some (.int (-3) kxx)))
  (exy : W.nsIn K mainGlobals "HAS_MARKER" = some (some (.int (-4) kxy)))
  (exz : W.nsIn K mainGlobals "NO_BEGINNING" = some (some (.int (-5) kxz)))
  (exA : W.nsIn K mainGlobals "TOLD_TWICE" = some (some (.int (-6) kxA)))
  (exB : W.nsIn K mainGlobals "NOTHING_TO_TAKE_BACK" = some (some (.int (-7) kxB)))
  (exC : W.nsIn K mainGlobals "WRONG_LINE" = some (some (.int (-100) kxC)))
  (exD : W.nsIn K mainGlobals "COMPANIES" = some (some (.int (8) kxD)))
  (exE : W.nsIn K mainGlobals "MOST_BYTES" = some (some (.int (4000) kxE)))
  (exF : W.nsIn K mainGlobals "MOST_SALE" = some (some (.int (10) kxF)))
  (exG : W.nsIn K mainGlobals "MOST_PAYMENT" = some (some (.int (1000000000) kxG)))
  (exH : W.nsIn K mainGlobals "MOST_MOVES" = some (some (.int (60) kxH)))
  (exI : W.nsIn K mainGlobals "MOST_SHARES" = some (some (.int (1000000) kxI)))
  (exJ : W.nsIn K mainGlobals "CALLS" = some (some (.ref axJ)))
  (lxJ : K.lookup axJ = some ⟨.type "tuple", odCALLS, .seq #[.ref azT, .ref azU, .ref azV, .ref azW, .ref azX, .ref azY, .ref azZ, .ref az0, .ref az1, .ref az2, .ref az3, .ref az4, .ref az5, .ref az6, .ref az7, .ref az8, .ref az9, .ref aya, .ref ayb, .ref ayc, .ref ayd] nCALLS, slCALLS⟩)
  (nall : W.nsIn K mainGlobals "all" = some none)
  (ndict : W.nsIn K mainGlobals "dict" = some none)
  (nlen : W.nsIn K mainGlobals "len" = some none)
  (nlist : W.nsIn K mainGlobals "list" = some none)
  (nord : W.nsIn K mainGlobals "ord" = some none)
  (nrange : W.nsIn K mainGlobals "range" = some none)
  (nset : W.nsIn K mainGlobals "set" = some none)
  (nsorted : W.nsIn K mainGlobals "sorted" = some none)
  (nstr : W.nsIn K mainGlobals "str" = some none)
  (nsum : W.nsIn K mainGlobals "sum" = some none)
  (ntuple : W.nsIn K mainGlobals "tuple" = some none)
  (cdO : cdzo = .ref cOrd)
  (cdHd : W.codeHdIn K cOrd pT = true)
  : ∃ A : Adr, A.pT = pT ∧ A.ayf = ayf ∧ Txt K mg A := by
 refine ⟨⟨cGrid, cMarkers, cGame, cReading, cReader, aza, (fo "__init__" "Grid.__init__" sza kVza dcza pmza anza cdza ctza), azb, (fo "has" "Grid.has" szb kVzb dczb pmzb anzb cdzb ctzb), azc, (fo "all_places" "Grid.all_places" szc kVzc dczc pmzc anzc cdzc ctzc), azd, (fo "price" "Grid.price" szd kVzd dczd pmzd anzd cdzd ctzd), aze, (fo "letters" "Grid.letters" sze kVze dcze pmze anze cdze ctze), azf, (fo "step" "Grid.step" szf kVzf dczf pmzf anzf cdzf ctzf), azg, (fo "walk" "Grid.walk" szg kVzg dczg pmzg anzg cdzg ctzg), azh, (fo "beyond" "Grid.beyond" szh kVzh dczh pmzh anzh cdzh ctzh), azi, (fo "least_moves" "Grid.least_moves" szi kVzi dczi pmzi anzi cdzi ctzi), azj, (fo "__init__" "Markers.__init__" szj kVzj dczj pmzj anzj cdzj ctzj), azk, (fo "copied" "Markers.copied" szk kVzk dczk pmzk anzk cdzk ctzk), azl, (fo "put" "Markers.put" szl kVzl dczl pmzl anzl cdzl ctzl), azm, (fo "send" "Markers.send" szm kVzm dczm pmzm anzm cdzm ctzm), azn, (fo "stack" "Markers.stack" szn kVzn dczn pmzn anzn cdzn ctzn), azo, (fo "order" "Markers.order" szo kVzo dczo pmzo anzo cdzo ctzo), azp, (fo "__init__" "Game.__init__" szp kVzp dczp pmzp anzp cdzp ctzp), azq, (fo "lay" "Game.lay" szq kVzq dczq pmzq anzq cdzq ctzq), azr, (fo "record_change" "Game.record_change" szr kVzr dczr pmzr anzr cdzr ctzr), azs, (fo "take_back" "Game.take_back" szs kVzs dczs pmzs anzs cdzs ctzs), azt, (fo "__init__" "Reading.__init__" szt kVzt dczt pmzt anzt cdzt ctzt), azu, (fo "parted" "parted" szu kVzu dczu pmzu anzu cdzu ctzu), azv, (fo "lines_of" "lines_of" szv kVzv dczv pmzv anzv cdzv ctzv), azw, (fo "words_of" "words_of" szw kVzw dczw pmzw anzw cdzw ctzw), azx, (fo "read_price" "read_price" szx kVzx dczx pmzx anzx cdzx ctzx), azy, (fo "are_letters" "are_letters" szy kVzy dczy pmzy anzy cdzy ctzy), azz, (fo "read_cell" "read_cell" szz kVzz dczz pmzz anzz cdzz ctzz), azA, (fo "rises" "rises" szA kVzA dczA pmzA anzA cdzA ctzA), azB, (fo "fits_under" "fits_under" szB kVzB dczB pmzB anzB cdzB ctzB), azC, (fo "read_row" "read_row" szC kVzC dczC pmzC anzC cdzC ctzC), azD, (fo "is_plain" "is_plain" szD kVzD dczD pmzD anzD cdzD ctzD), azE, (fo "take_line" "take_line" szE kVzE dczE pmzE anzE cdzE ctzE), azF, (fo "read_board" "read_board" szF kVzF dczF pmzF anzF cdzF ctzF), azG, (fo "printed_cell" "printed_cell" szG kVzG dczG pmzG anzG cdzG ctzG), azH, (fo "printed_board" "printed_board" szH kVzH dczH pmzH anzH cdzH ctzH), azI, (fo "__init__" "Reader.__init__" szI kVzI dczI pmzI anzI cdzI ctzI), azJ, (fo "has_more" "Reader.has_more" szJ kVzJ dczJ pmzJ anzJ cdzJ ctzJ), azK, (fo "take_number" "Reader.take_number" szK kVzK dczK pmzK anzK cdzK ctzK), azL, (fo "take_place" "Reader.take_place" szL kVzL dczL pmzL anzL cdzL ctzL), azM, (fo "take_list" "Reader.take_list" szM kVzM dczM pmzM anzM cdzM ctzM), azN, (fo "with_count" "with_count" szN kVzN dczN pmzN anzN cdzN ctzN), azO, (fo "has_marker" "has_marker" szO kVzO dczO pmzO anzO cdzO ctzO), azP, (fo "price_of" "price_of" szP kVzP dczP pmzP anzP cdzP ctzP), azQ, (fo "are_moves" "are_moves" szQ kVzQ dczQ pmzQ anzQ cdzQ ctzQ), azR, (fo "are_shares" "are_shares" szR kVzR dczR pmzR anzR cdzR ctzR), azS, (fo "send_marker" "send_marker" szS kVzS dczS pmzS anzS cdzS ctzS), azT, (fo "load" "load" szT kVzT dczT pmzT anzT cdzT ctzT), azU, (fo "tell_board" "tell_board" szU kVzU dczU pmzU anzU cdzU ctzU), azV, (fo "tell_cell" "tell_cell" szV kVzV dczV pmzV anzV cdzV ctzV), azW, (fo "begin" "begin" szW kVzW dczW pmzW anzW cdzW ctzW), azX, (fo "sell" "sell" szX kVzX dczX pmzX anzX cdzX ctzX), azY, (fo "pay" "pay" szY kVzY dczY pmzY anzY cdzY ctzY), azZ, (fo "sold_out" "sold_out" szZ kVzZ dczZ pmzZ anzZ cdzZ ctzZ), az0, (fo "make_moves" "make_moves" sz0 kVz0 dcz0 pmz0 anz0 cdz0 ctz0), az1, (fo "tell_price" "tell_price" sz1 kVz1 dcz1 pmz1 anz1 cdz1 ctz1), az2, (fo "tell_place" "tell_place" sz2 kVz2 dcz2 pmz2 anz2 cdz2 ctz2), az3, (fo "tell_order" "tell_order" sz3 kVz3 dcz3 pmz3 anz3 cdz3 ctz3), az4, (fo "tell_stack" "tell_stack" sz4 kVz4 dcz4 pmz4 anz4 cdz4 ctz4), az5, (fo "tell_closed" "tell_closed" sz5 kVz5 dcz5 pmz5 anz5 cdz5 ctz5), az6, (fo "tell_ended" "tell_ended" sz6 kVz6 dcz6 pmz6 anz6 cdz6 ctz6), az7, (fo "tell_reach" "tell_reach" sz7 kVz7 dcz7 pmz7 anz7 cdz7 ctz7), az8, (fo "tell_same" "tell_same" sz8 kVz8 dcz8 pmz8 anz8 cdz8 ctz8), az9, (fo "tell_steps" "tell_steps" sz9 kVz9 dcz9 pmz9 anz9 cdz9 ctz9), aya, (fo "undo" "undo" sya kVya dcya pmya anya cdya ctya), ayb, (fo "tell_worth" "tell_worth" syb kVyb dcyb pmyb anyb cdyb ctyb), ayc, (fo "tell_first" "tell_first" syc kVyc dcyc pmyc anyc cdyc ctyc), ayd, (fo "tell_size" "tell_size" syd kVyd dcyd pmyd anyd cdyd ctyd), aye, (fo "play" "play" sye kVye dcye pmye anye cdye ctye), ayf, (fo "answers" "answers" syf kVyf dcyf pmyf anyf cdyf ctyf), kxa, kxb, kxc, kxd, axe, kxf, kxg, kxh, axi, kxj, kxk, kxl, kxm, kxn, kxo, kxp, kxq, kxr, kxs, kxt, kxu, kxv, kxw, kxx, kxy, kxz, kxA, kxB, kxC, kxD, kxE, kxF, kxG, kxH, kxI, axJ, cOrd, pT⟩, rfl, rfl, ?_⟩
 exact ⟨⟨pgGrid, hdGrid, poGrid, saGrid⟩, ⟨mkGrid, a_za, i_za, kcGrid⟩, W.mg_of X G acGrid, nGr, ⟨pgMarkers, hdMarkers, poMarkers, saMarkers⟩, ⟨mkMarkers, a_zj, i_zj, kcMarkers⟩, W.mg_of X G acMarkers, nMp, nMc, nMe, ⟨pgGame, hdGame, poGame, saGame⟩, ⟨mkGame, a_zp, i_zp, kcGame⟩, W.mg_of X G acGame, nGg, nGm, nGp, ⟨pgReading, hdReading, poReading, saReading⟩, ⟨mkReading, a_zt, i_zt, kcReading⟩, W.mg_of X G acReading, nRr, nRw, ⟨pgReader, hdReader, poReader, saReader⟩, ⟨mkReader, a_zI, i_zI, kcReader⟩, W.mg_of X G acReader, nRc, nRp, fM (st := sza) l_za c_za k_za, (fM (st := sza) l_za c_za k_za).binds (ps := ["self", "rows"]) fun _ _ _ _ _ _ us hl => match us, hl with | [_, _], _ => rfl, fM (st := szb) l_zb c_zb k_zb, (fM (st := szb) l_zb c_zb k_zb).binds (ps := ["self", "place"]) fun _ _ _ _ _ _ us hl => match us, hl with | [_, _], _ => rfl, ⟨a_zb, i_zb, k_zb⟩, fM (st := szc) l_zc c_zc k_zc, (fM (st := szc) l_zc c_zc k_zc).binds (ps := ["self"]) fun _ _ _ _ _ _ us hl => match us, hl with | [_], _ => rfl, ⟨a_zc, i_zc, k_zc⟩, fM (st := szd) l_zd c_zd k_zd, (fM (st := szd) l_zd c_zd k_zd).binds (ps := ["self", "place"]) fun _ _ _ _ _ _ us hl => match us, hl with | [_, _], _ => rfl, ⟨a_zd, i_zd, k_zd⟩, fM (st := sze) l_ze c_ze k_ze, (fM (st := sze) l_ze c_ze k_ze).binds (ps := ["self", "place"]) fun _ _ _ _ _ _ us hl => match us, hl with | [_, _], _ => rfl, ⟨a_ze, i_ze, k_ze⟩, fM (st := szf) l_zf c_zf k_zf, (fM (st := szf) l_zf c_zf k_zf).binds (ps := ["self", "place", "move"]) fun _ _ _ _ _ _ us hl => match us, hl with | [_, _, _], _ => rfl, ⟨a_zf, i_zf, k_zf⟩, fM (st := szg) l_zg c_zg k_zg, (fM (st := szg) l_zg c_zg k_zg).binds (ps := ["self", "place", "moves"]) fun _ _ _ _ _ _ us hl => match us, hl with | [_, _, _], _ => rfl, ⟨a_zg, i_zg, k_zg⟩, fM (st := szh) l_zh c_zh k_zh, (fM (st := szh) l_zh c_zh k_zh).binds (ps := ["self", "edge", "reached"]) fun _ _ _ _ _ _ us hl => match us, hl with | [_, _, _], _ => rfl, ⟨a_zh, i_zh, k_zh⟩, fM (st := szi) l_zi c_zi k_zi, (fM (st := szi) l_zi c_zi k_zi).binds (ps := ["self", "start", "goal"]) fun _ _ _ _ _ _ us hl => match us, hl with | [_, _, _], _ => rfl, ⟨a_zi, i_zi, k_zi⟩, fM (st := szj) l_zj c_zj k_zj, (fM (st := szj) l_zj c_zj k_zj).binds (ps := ["self"]) fun _ _ _ _ _ _ us hl => match us, hl with | [_], _ => rfl, fM (st := szk) l_zk c_zk k_zk, (fM (st := szk) l_zk c_zk k_zk).binds (ps := ["self"]) fun _ _ _ _ _ _ us hl => match us, hl with | [_], _ => rfl, ⟨a_zk, i_zk, k_zk⟩, fM (st := szl) l_zl c_zl k_zl, (fM (st := szl) l_zl c_zl k_zl).binds (ps := ["self", "company", "place"]) fun _ _ _ _ _ _ us hl => match us, hl with | [_, _, _], _ => rfl, ⟨a_zl, i_zl, k_zl⟩, fM (st := szm) l_zm c_zm k_zm, (fM (st := szm) l_zm c_zm k_zm).binds (ps := ["self", "grid", "company", "moves"]) fun _ _ _ _ _ _ us hl => match us, hl with | [_, _, _, _], _ => rfl, ⟨a_zm, i_zm, k_zm⟩, fM (st := szn) l_zn c_zn k_zn, (fM (st := szn) l_zn c_zn k_zn).binds (ps := ["self", "place"]) fun _ _ _ _ _ _ us hl => match us, hl with | [_, _], _ => rfl, ⟨a_zn, i_zn, k_zn⟩, fM (st := szo) l_zo c_zo k_zo, (fM (st := szo) l_zo c_zo k_zo).binds (ps := ["self", "grid"]) fun _ _ _ _ _ _ us hl => match us, hl with | [_, _], _ => rfl, ⟨a_zo, i_zo, k_zo⟩, fM (st := szp) l_zp c_zp k_zp, (fM (st := szp) l_zp c_zp k_zp).binds (ps := ["self"]) fun _ _ _ _ _ _ us hl => match us, hl with | [_], _ => rfl, fM (st := szq) l_zq c_zq k_zq, (fM (st := szq) l_zq c_zq k_zq).binds (ps := ["self", "grid"]) fun _ _ _ _ _ _ us hl => match us, hl with | [_, _], _ => rfl, ⟨a_zq, i_zq, k_zq⟩, fM (st := szr) l_zr c_zr k_zr, (fM (st := szr) l_zr c_zr k_zr).binds (ps := ["self"]) fun _ _ _ _ _ _ us hl => match us, hl with | [_], _ => rfl, ⟨a_zr, i_zr, k_zr⟩, fM (st := szs) l_zs c_zs k_zs, (fM (st := szs) l_zs c_zs k_zs).binds (ps := ["self"]) fun _ _ _ _ _ _ us hl => match us, hl with | [_], _ => rfl, ⟨a_zs, i_zs, k_zs⟩, fM (st := szt) l_zt c_zt k_zt, (fM (st := szt) l_zt c_zt k_zt).binds (ps := ["self"]) fun _ _ _ _ _ _ us hl => match us, hl with | [_], _ => rfl, fM (st := szu) l_zu c_zu k_zu, (fM (st := szu) l_zu c_zu k_zu).binds (ps := ["signs", "mark"]) fun _ _ _ _ _ _ us hl => match us, hl with | [_, _], _ => rfl, W.mg_of X G a_zu, fM (st := szv) l_zv c_zv k_zv, (fM (st := szv) l_zv c_zv k_zv).binds (ps := ["text"]) fun _ _ _ _ _ _ us hl => match us, hl with | [_], _ => rfl, W.mg_of X G a_zv, fM (st := szw) l_zw c_zw k_zw, (fM (st := szw) l_zw c_zw k_zw).binds (ps := ["line"]) fun _ _ _ _ _ _ us hl => match us, hl with | [_], _ => rfl, W.mg_of X G a_zw, fM (st := szx) l_zx c_zx k_zx, (fM (st := szx) l_zx c_zx k_zx).binds (ps := ["digits"]) fun _ _ _ _ _ _ us hl => match us, hl with | [_], _ => rfl, W.mg_of X G a_zx, fM (st := szy) l_zy c_zy k_zy, (fM (st := szy) l_zy c_zy k_zy).binds (ps := ["signs"]) fun _ _ _ _ _ _ us hl => match us, hl with | [_], _ => rfl, W.mg_of X G a_zy, fM (st := szz) l_zz c_zz k_zz, (fM (st := szz) l_zz c_zz k_zz).binds (ps := ["word"]) fun _ _ _ _ _ _ us hl => match us, hl with | [_], _ => rfl, W.mg_of X G a_zz, fM (st := szA) l_zA c_zA k_zA, (fM (st := szA) l_zA c_zA k_zA).binds (ps := ["row"]) fun _ _ _ _ _ _ us hl => match us, hl with | [_], _ => rfl, W.mg_of X G a_zA, fM (st := szB) l_zB c_zB k_zB, (fM (st := szB) l_zB c_zB k_zB).binds (ps := ["row", "above"]) fun _ _ _ _ _ _ us hl => match us, hl with | [_, _], _ => rfl, W.mg_of X G a_zB, fM (st := szC) l_zC c_zC k_zC, (fM (st := szC) l_zC c_zC k_zC).binds (ps := ["words", "rows"]) fun _ _ _ _ _ _ us hl => match us, hl with | [_, _], _ => rfl, W.mg_of X G a_zC, fM (st := szD) l_zD c_zD k_zD, (fM (st := szD) l_zD c_zD k_zD).binds (ps := ["line"]) fun _ _ _ _ _ _ us hl => match us, hl with | [_], _ => rfl, W.mg_of X G a_zD, fM (st := szE) l_zE c_zE k_zE, (fM (st := szE) l_zE c_zE k_zE).binds (ps := ["rows", "line"]) fun _ _ _ _ _ _ us hl => match us, hl with | [_, _], _ => rfl, W.mg_of X G a_zE, fM (st := szF) l_zF c_zF k_zF, (fM (st := szF) l_zF c_zF k_zF).binds (ps := ["text"]) fun _ _ _ _ _ _ us hl => match us, hl with | [_], _ => rfl, W.mg_of X G a_zF, fM (st := szG) l_zG c_zG k_zG, (fM (st := szG) l_zG c_zG k_zG).binds (ps := ["cell"]) fun _ _ _ _ _ _ us hl => match us, hl with | [_], _ => rfl, W.mg_of X G a_zG, fM (st := szH) l_zH c_zH k_zH, (fM (st := szH) l_zH c_zH k_zH).binds (ps := ["rows"]) fun _ _ _ _ _ _ us hl => match us, hl with | [_], _ => rfl, W.mg_of X G a_zH, fM (st := szI) l_zI c_zI k_zI, (fM (st := szI) l_zI c_zI k_zI).binds (ps := ["self", "calls"]) fun _ _ _ _ _ _ us hl => match us, hl with | [_, _], _ => rfl, fM (st := szJ) l_zJ c_zJ k_zJ, (fM (st := szJ) l_zJ c_zJ k_zJ).binds (ps := ["self"]) fun _ _ _ _ _ _ us hl => match us, hl with | [_], _ => rfl, ⟨a_zJ, i_zJ, k_zJ⟩, fM (st := szK) l_zK c_zK k_zK, (fM (st := szK) l_zK c_zK k_zK).binds (ps := ["self"]) fun _ _ _ _ _ _ us hl => match us, hl with | [_], _ => rfl, ⟨a_zK, i_zK, k_zK⟩, fM (st := szL) l_zL c_zL k_zL, (fM (st := szL) l_zL c_zL k_zL).binds (ps := ["self"]) fun _ _ _ _ _ _ us hl => match us, hl with | [_], _ => rfl, ⟨a_zL, i_zL, k_zL⟩, fM (st := szM) l_zM c_zM k_zM, (fM (st := szM) l_zM c_zM k_zM).binds (ps := ["self"]) fun _ _ _ _ _ _ us hl => match us, hl with | [_], _ => rfl, ⟨a_zM, i_zM, k_zM⟩, fM (st := szN) l_zN c_zN k_zN, (fM (st := szN) l_zN c_zN k_zN).binds (ps := ["numbers"]) fun _ _ _ _ _ _ us hl => match us, hl with | [_], _ => rfl, W.mg_of X G a_zN, fM (st := szO) l_zO c_zO k_zO, (fM (st := szO) l_zO c_zO k_zO).binds (ps := ["game", "company"]) fun _ _ _ _ _ _ us hl => match us, hl with | [_, _], _ => rfl, W.mg_of X G a_zO, fM (st := szP) l_zP c_zP k_zP, (fM (st := szP) l_zP c_zP k_zP).binds (ps := ["game", "company"]) fun _ _ _ _ _ _ us hl => match us, hl with | [_, _], _ => rfl, W.mg_of X G a_zP, fM (st := szQ) l_zQ c_zQ k_zQ, (fM (st := szQ) l_zQ c_zQ k_zQ).binds (ps := ["numbers"]) fun _ _ _ _ _ _ us hl => match us, hl with | [_], _ => rfl, W.mg_of X G a_zQ, fM (st := szR) l_zR c_zR k_zR, (fM (st := szR) l_zR c_zR k_zR).binds (ps := ["numbers"]) fun _ _ _ _ _ _ us hl => match us, hl with | [_], _ => rfl, W.mg_of X G a_zR, fM (st := szS) l_zS c_zS k_zS, (fM (st := szS) l_zS c_zS k_zS).binds (ps := ["game", "company", "moves"]) fun _ _ _ _ _ _ us hl => match us, hl with | [_, _, _], _ => rfl, W.mg_of X G a_zS, fM (st := szT) l_zT c_zT k_zT, (fM (st := szT) l_zT c_zT k_zT).binds (ps := ["game", "reader"]) fun _ _ _ _ _ _ us hl => match us, hl with | [_, _], _ => rfl, W.mg_of X G a_zT, fM (st := szU) l_zU c_zU k_zU, (fM (st := szU) l_zU c_zU k_zU).binds (ps := ["game", "reader"]) fun _ _ _ _ _ _ us hl => match us, hl with | [_, _], _ => rfl, W.mg_of X G a_zU, fM (st := szV) l_zV c_zV k_zV, (fM (st := szV) l_zV c_zV k_zV).binds (ps := ["game", "reader"]) fun _ _ _ _ _ _ us hl => match us, hl with | [_, _], _ => rfl, W.mg_of X G a_zV, fM (st := szW) l_zW c_zW k_zW, (fM (st := szW) l_zW c_zW k_zW).binds (ps := ["game", "reader"]) fun _ _ _ _ _ _ us hl => match us, hl with | [_, _], _ => rfl, W.mg_of X G a_zW, fM (st := szX) l_zX c_zX k_zX, (fM (st := szX) l_zX c_zX k_zX).binds (ps := ["game", "reader"]) fun _ _ _ _ _ _ us hl => match us, hl with | [_, _], _ => rfl, W.mg_of X G a_zX, fM (st := szY) l_zY c_zY k_zY, (fM (st := szY) l_zY c_zY k_zY).binds (ps := ["game", "reader"]) fun _ _ _ _ _ _ us hl => match us, hl with | [_, _], _ => rfl, W.mg_of X G a_zY, fM (st := szZ) l_zZ c_zZ k_zZ, (fM (st := szZ) l_zZ c_zZ k_zZ).binds (ps := ["game", "reader"]) fun _ _ _ _ _ _ us hl => match us, hl with | [_, _], _ => rfl, W.mg_of X G a_zZ, fM (st := sz0) l_z0 c_z0 k_z0, (fM (st := sz0) l_z0 c_z0 k_z0).binds (ps := ["game", "reader"]) fun _ _ _ _ _ _ us hl => match us, hl with | [_, _], _ => rfl, W.mg_of X G a_z0, fM (st := sz1) l_z1 c_z1 k_z1, (fM (st := sz1) l_z1 c_z1 k_z1).binds (ps := ["game", "reader"]) fun _ _ _ _ _ _ us hl => match us, hl with | [_, _], _ => rfl, W.mg_of X G a_z1, fM (st := sz2) l_z2 c_z2 k_z2, (fM (st := sz2) l_z2 c_z2 k_z2).binds (ps := ["game", "reader"]) fun _ _ _ _ _ _ us hl => match us, hl with | [_, _], _ => rfl, W.mg_of X G a_z2, fM (st := sz3) l_z3 c_z3 k_z3, (fM (st := sz3) l_z3 c_z3 k_z3).binds (ps := ["game", "reader"]) fun _ _ _ _ _ _ us hl => match us, hl with | [_, _], _ => rfl, W.mg_of X G a_z3, fM (st := sz4) l_z4 c_z4 k_z4, (fM (st := sz4) l_z4 c_z4 k_z4).binds (ps := ["game", "reader"]) fun _ _ _ _ _ _ us hl => match us, hl with | [_, _], _ => rfl, W.mg_of X G a_z4, fM (st := sz5) l_z5 c_z5 k_z5, (fM (st := sz5) l_z5 c_z5 k_z5).binds (ps := ["game", "reader"]) fun _ _ _ _ _ _ us hl => match us, hl with | [_, _], _ => rfl, W.mg_of X G a_z5, fM (st := sz6) l_z6 c_z6 k_z6, (fM (st := sz6) l_z6 c_z6 k_z6).binds (ps := ["game", "reader"]) fun _ _ _ _ _ _ us hl => match us, hl with | [_, _], _ => rfl, W.mg_of X G a_z6, fM (st := sz7) l_z7 c_z7 k_z7, (fM (st := sz7) l_z7 c_z7 k_z7).binds (ps := ["game", "reader"]) fun _ _ _ _ _ _ us hl => match us, hl with | [_, _], _ => rfl, W.mg_of X G a_z7, fM (st := sz8) l_z8 c_z8 k_z8, (fM (st := sz8) l_z8 c_z8 k_z8).binds (ps := ["game", "reader"]) fun _ _ _ _ _ _ us hl => match us, hl with | [_, _], _ => rfl, W.mg_of X G a_z8, fM (st := sz9) l_z9 c_z9 k_z9, (fM (st := sz9) l_z9 c_z9 k_z9).binds (ps := ["game", "reader"]) fun _ _ _ _ _ _ us hl => match us, hl with | [_, _], _ => rfl, W.mg_of X G a_z9, fM (st := sya) l_ya c_ya k_ya, (fM (st := sya) l_ya c_ya k_ya).binds (ps := ["game", "reader"]) fun _ _ _ _ _ _ us hl => match us, hl with | [_, _], _ => rfl, W.mg_of X G a_ya, fM (st := syb) l_yb c_yb k_yb, (fM (st := syb) l_yb c_yb k_yb).binds (ps := ["game", "reader"]) fun _ _ _ _ _ _ us hl => match us, hl with | [_, _], _ => rfl, W.mg_of X G a_yb, fM (st := syc) l_yc c_yc k_yc, (fM (st := syc) l_yc c_yc k_yc).binds (ps := ["game", "reader"]) fun _ _ _ _ _ _ us hl => match us, hl with | [_, _], _ => rfl, W.mg_of X G a_yc, fM (st := syd) l_yd c_yd k_yd, (fM (st := syd) l_yd c_yd k_yd).binds (ps := ["game", "reader"]) fun _ _ _ _ _ _ us hl => match us, hl with | [_, _], _ => rfl, W.mg_of X G a_yd, fM (st := sye) l_ye c_ye k_ye, (fM (st := sye) l_ye c_ye k_ye).binds (ps := ["game", "calls"]) fun _ _ _ _ _ _ us hl => match us, hl with | [_, _], _ => rfl, W.mg_of X G a_ye, fM (st := syf) l_yf c_yf k_yf, (fM (st := syf) l_yf c_yf k_yf).binds (ps := ["calls"]) fun _ _ _ _ _ _ us hl => match us, hl with | [_], _ => rfl, W.mg_of X G a_yf, W.mg_of X G exa, W.mg_of X G exb, W.mg_of X G exc, W.mg_of X G exd, W.mg_of X G exe, fun H => .inr ⟨_, _, _, lxe, rfl, rfl, by show 4 ≤ sizeLine; decide, (.cons ⟨_, rfl⟩ (.cons ⟨_, rfl⟩ (.cons ⟨_, rfl⟩ (.cons ⟨_, rfl⟩ .nil))))⟩, W.mg_of X G exf, W.mg_of X G exg, W.mg_of X G exh, W.mg_of X G exi, fun H => .inr ⟨_, _, _, lxi, rfl, rfl, by show 4 ≤ sizeLine; decide, (.cons ⟨_, rfl⟩ (.cons ⟨_, rfl⟩ (.cons ⟨_, rfl⟩ (.cons ⟨_, rfl⟩ .nil))))⟩, W.mg_of X G exj, W.mg_of X G exk, W.mg_of X G exl, W.mg_of X G exm, W.mg_of X G exn, W.mg_of X G exo, W.mg_of X G exp, W.mg_of X G exq, W.mg_of X G exr, W.mg_of X G exs, W.mg_of X G ext, W.mg_of X G exu, W.mg_of X G exv, W.mg_of X G exw, W.mg_of X G exx, W.mg_of X G exy, W.mg_of X G exz, W.mg_of X G exA, W.mg_of X G exB, W.mg_of X G exC, W.mg_of X G exD, W.mg_of X G exE, W.mg_of X G exF, W.mg_of X G exG, W.mg_of X G exH, W.mg_of X G exI, W.mg_of X G exJ, fun H => .inr ⟨_, _, _, lxJ, rfl, rfl, by show 21 ≤ sizeLine; decide, (.cons rfl (.cons rfl (.cons rfl (.cons rfl (.cons rfl (.cons rfl (.cons rfl (.cons rfl (.cons rfl (.cons rfl (.cons rfl (.cons rfl (.cons rfl (.cons rfl (.cons rfl (.cons rfl (.cons rfl (.cons rfl (.cons rfl (.cons rfl (.cons rfl .nil)))))))))))))))))))))⟩, cdO, cdHd, W.mg_none_of X G nall, W.mg_none_of X G ndict, W.mg_none_of X G nlen, W.mg_none_of X G nlist, W.mg_none_of X G nord, W.mg_none_of X G nrange, W.mg_none_of X G nset, W.mg_none_of X G nsorted, W.mg_none_of X G nstr, W.mg_none_of X G nsum, W.mg_none_of X G ntuple⟩
end Pb
namespace Pb
open PySem PySem.Spec PyProof.Rows L2 Vb
open Vbsgae (Cell Board Marker Table State)
abbrev Pc : Type := Vbsgae.Place
abbrev nV (n : Nat) : V := .int (n : Int)
abbrev nVs (l : List Nat) : List V := l.map nV
abbrev iVs (l : List Int) : List V := l.map V.int
def PlZ (H : Hp) (a : Addr) (r k : Int) : Prop := H a = some (.tup [.int r, .int k])
def PlA (H : Hp) (a : Addr) (p : Pc) : Prop := PlZ H a p.1 p.2
def CellA (H : Hp) (a : Addr) (c : Cell) : Prop := ∃ l, H a = some (.tup [nV c.price, .ref l]) ∧ H l = some (.tup (nVs c.letters))
def RowA (H : Hp) (r : Addr) (row : List Cell) : Prop := ∃ cs : List Addr, H r = some (.lst (cs.map V.ref)) ∧ Paired (CellA H) cs row
structure RowsA (H : Hp) (w : Addr) (rs : List Addr) (b : Board) : Prop where
 at_ : H w = some (.lst (rs.map V.ref))
 rows : Paired (RowA H) rs b
structure GridA (A : Adr) (H : Hp) (g w : Addr) (rs : List Addr) (b : Board) : Prop where
 ins : ∃ dx, H g = some (.ins A.cGrid dx [("rows", .ref w)])
 rows : RowsA H w rs b
section
variable {H H' : Hp} {S : List Addr}
theorem PlZ.keep {a : Addr} {r k : Int} (h : PlZ H a r k) (e : Kp S H H') : PlZ H' a r k := e.tup _ _ h
theorem PlA.keep {a : Addr} {p : Pc} (h : PlA H a p) (e : Kp S H H') : PlA H' a p := e.tup _ _ h
theorem CellA.keep {a : Addr} {c : Cell} (h : CellA H a c) (e : Kp S H H') : CellA H' a c := let ⟨l, h1, h2⟩ := h; ⟨l, e.tup _ _ h1, e.tup _ _ h2⟩
theorem RowA.keep {r : Addr} {row : List Cell} (h : RowA H r row) (e : Kp S H H') (hr : r ∉ S) : RowA H' r row :=
 let ⟨cs, h1, h2⟩ := h; ⟨cs, e.kp _ _ h1 hr, pkeep h2 fun _ _ x => x.keep e⟩
theorem rows_keep (e : Kp S H H') : ∀ {rs : List Addr} {b : Board}, Paired (RowA H) rs b → (∀ r ∈ rs, r ∉ S) → Paired (RowA H') rs b
 | _, _, .nil, _ => .nil
 | _, _, .cons a t, h => .cons (a.keep e (h _ (.head _))) (rows_keep e t fun r hr => h r (.tail _ hr))
theorem RowsA.keep {w : Addr} {rs : List Addr} {b : Board} (h : RowsA H w rs b) (e : Kp S H H') (hw : w ∉ S) (hr : ∀ r ∈ rs, r ∉ S) : RowsA H' w rs b := ⟨e.kp _ _ h.at_ hw, rows_keep e h.rows hr⟩
theorem GridA.keep {A : Adr} {g w : Addr} {rs : List Addr} {b : Board} (h : GridA A H g w rs b) (e : Kp S H H') (hg : g ∉ S) (hw : w ∉ S) (hr : ∀ r ∈ rs, r ∉ S) : GridA A H' g w rs b :=
 ⟨let ⟨dx, h1⟩ := h.ins; ⟨dx, e.kp _ _ h1 hg⟩, h.rows.keep e hw hr⟩
theorem GridA.keep0 {A : Adr} {g w : Addr} {rs : List Addr} {b : Board} (h : GridA A H g w rs b) (e : Kp [] H H') : GridA A H' g w rs b := h.keep e (by simp) (by simp) fun _ _ => by simp
theorem RowsA.keep0 {w : Addr} {rs : List Addr} {b : Board} (h : RowsA H w rs b) (e : Kp [] H H') : RowsA H' w rs b := h.keep e (by simp) fun _ _ => by simp
theorem RowA.keep0 {r : Addr} {row : List Cell} (h : RowA H r row) (e : Kp [] H H') : RowA H' r row := h.keep e (by simp)
theorem pls_keep (e : Kp S H H') {as : List Addr} {ps : List Pc} (h : Paired (PlA H) as ps) : Paired (PlA H') as ps := pkeep h fun _ _ x => x.keep e
end
theorem map_get {α β : Type} {f : α → β} {l : List α} {i : Nat} {x : α} (h : l[i]? = some x) : (l.map f)[i]? = some (f x) := by rw [List.getElem?_map, h]; rfl
theorem at_nat {α : Type} {f : α → V} {l : List α} {i : Nat} {x : α} (h : l[i]? = some x) : atI (l.map f) (i : Int) = some (f x) := atI_nat (map_get h)
theorem RowsA.cell {H : Hp} {w : Addr} {rs : List Addr} {b : Board} (h : RowsA H w rs b) {p : Pc} (hp : Vbsgae.has b p = true) :
  ∃ (r : Addr) (cs : List Addr) (c l : Addr), rs[p.1]? = some r ∧ H r = some (.lst (cs.map V.ref)) ∧ cs[p.2]? = some c ∧ H c = some (.tup [nV (Vbsgae.cellAt b p).price, .ref l]) ∧ H l = some (.tup (nVs (Vbsgae.cellAt b p).letters)) := by
 obtain ⟨row, x, h1, h2, h3⟩ := has_row hp
 obtain ⟨r, hr, cs, hcs, pc⟩ := pget h.rows h1
 obtain ⟨c, hc, l, e1, e2⟩ := pget pc h2
 rw [h3]
 exact ⟨r, cs, c, l, hr, hcs, hc, e1, e2⟩
structure MA where
 m : Addr
 pl : Addr
 cl : Addr
def MA.fp (x : MA) : List Addr := [x.m, x.pl, x.cl]
abbrev mf (pl cl : Addr) (e : Bool) : List (Str × V) := [("places", .ref pl), ("closed", .ref cl), ("ended", .bl e)]
def KvA (H : Hp) (kv : Key × V) (m : Marker) : Prop := kv.1 = Sum.inl (m.company : Int) ∧ ∃ a, kv.2 = .ref a ∧ PlA H a m.place
structure TabR (A : Adr) (H : Hp) (x : MA) (t : Table) (kvs : List (Key × V)) : Prop where
 ins : ∃ dm, H x.m = some (.ins A.cMarkers dm (mf x.pl x.cl (decide (t.ended = 1))))
 pls : Rd H x.pl (.dK kvs)
 kv : Paired (KvA H) kvs t.markers
 clo : H x.cl = some (.lst (nVs t.closed))
structure TabA (A : Adr) (H : Hp) (x : MA) (t : Table) : Prop where
 ex : ∃ kvs, TabR A H x t kvs ∧ H x.pl = some (.dK kvs)
theorem kv_keep {H H' : Hp} {S : List Addr} (e : Kp S H H') {kvs : List (Key × V)} {ms : List Marker} (h : Paired (KvA H) kvs ms) : Paired (KvA H') kvs ms := pkeep h fun _ _ ⟨x, a, y, z⟩ => ⟨x, a, y, z.keep e⟩
theorem TabA.keep {A : Adr} {H H' : Hp} {S : List Addr} {x : MA} {t : Table} (h : TabA A H x t) (e : Kp S H H') (hx : ∀ y ∈ x.fp, y ∉ S) : TabA A H' x t := by
 obtain ⟨kvs, ⟨⟨dm, h1⟩, h2, h3, h4⟩, h5⟩ := h
 have m1 := hx x.m (.head _)
 have m2 := hx x.pl (.tail _ (.head _))
 have m3 := hx x.cl (.tail _ (.tail _ (.head _)))
 exact ⟨kvs, ⟨⟨dm, e.kp _ _ h1 m1⟩, .inl (e.kp _ _ h5 m2), kv_keep e h3, e.kp _ _ h4 m3⟩, e.kp _ _ h5 m2⟩
theorem TabA.keep0 {A : Adr} {H H' : Hp} {x : MA} {t : Table} (h : TabA A H x t) (e : Kp [] H H') : TabA A H' x t := h.keep e fun _ _ => by simp
theorem TabR.keep0 {A : Adr} {H H' : Hp} {x : MA} {t : Table} {kvs : List (Key × V)} (h : TabR A H x t kvs) (e : Kp [] H H') : TabR A H' x t kvs := by
 obtain ⟨⟨dm, h1⟩, h2, h3, h4⟩ := h
 refine ⟨⟨dm, e.at_ h1⟩, ?_, kv_keep e h3, e.at_ h4⟩
 rcases h2 with h | ⟨o, h⟩
 ·exact .inl (e.at_ h)
 ·exact .inr ⟨o, e.at_ h⟩
theorem kv_some {H : Hp} {c : Nat} : ∀ {kvs : List (Key × V)} {ms : List Marker} {m : Marker}, Paired (KvA H) kvs ms → ms.find? (fun m => m.company == c) = some m → ∃ a, valV kvs (Sum.inl (c : Int)) = some (.ref a) ∧ PlA H a m.place
 | _, _, m, .nil, h => by cases h
 | (k, v) :: kvs, y :: ms, m, .cons ⟨h1, a, h2, h3⟩ t, h => by
  rw [List.find?_cons] at h
  by_cases hc : y.company = c
  ·have hb : (y.company == c) = true := by simpa using hc
   rw [hb] at h
   have e : y = m := Option.some.inj h
   subst e
   refine ⟨a, ?_, h3⟩
   have h1' : k = Sum.inl (y.company : Int) := h1
   have h2' : v = .ref a := h2
   rw [valV_pos (show ((k, v) : Key × V).1 = _ by rw [h1', hc]), ← h2']
  ·have hb : (y.company == c) = false := by simpa using hc
   rw [hb] at h
   obtain ⟨a', e1, e2⟩ := kv_some t h
   refine ⟨a', ?_, e2⟩
   have h1' : k = Sum.inl (y.company : Int) := h1
   rw [valV_neg (show ¬ ((k, v) : Key × V).1 = _ by rw [h1']; intro e; have := Sum.inl.inj e; omega)]
   exact e1
theorem kv_none {H : Hp} {z : Int} : ∀ {kvs : List (Key × V)} {ms : List Marker}, Paired (KvA H) kvs ms → (∀ m ∈ ms, (m.company : Int) ≠ z) → valV kvs (Sum.inl z) = none
 | _, _, .nil, _ => rfl
 | (k, v) :: kvs, y :: ms, .cons ⟨h1, a, h2, h3⟩ t, h => by
  have h1' : k = Sum.inl (y.company : Int) := h1
  rw [valV_neg (show ¬ ((k, v) : Key × V).1 = _ by rw [h1']; intro e; exact h y (.head _) (Sum.inl.inj e))]
  exact kv_none t fun m hm => h m (.tail _ hm)
theorem kv_drop {H : Hp} {c : Nat} : ∀ {kvs : List (Key × V)} {ms : List Marker}, Paired (KvA H) kvs ms → Paired (KvA H) (dropK kvs (Sum.inl (c : Int))) (ms.filter fun m => m.company != c)
 | _, _, .nil => .nil
 | (k, v) :: kvs, y :: ms, .cons ⟨h1, h2⟩ t => by
  have h1' : k = Sum.inl (y.company : Int) := h1
  rw [List.filter_cons]
  by_cases hc : y.company = c
  ·rw [dropK_pos (show ((k, v) : Key × V).1 = _ by rw [h1', hc]), if_neg (by simp [hc])]
   exact kv_drop t
  ·rw [dropK_neg (show ¬ ((k, v) : Key × V).1 = _ by rw [h1']; intro e; have := Sum.inl.inj e; omega), if_pos (by simp [hc])]
   exact .cons ⟨h1, h2⟩ (kv_drop t)
theorem kv_on {A : Adr} {H : Hp} {x : MA} {s : State} {kvs : List (Key × V)} (h : TabR A H x s.table kvs) (T : Vb.TInv s.board s.table) (z : Int) : (valV kvs (Sum.inl z)).isSome = Vbsgae.onBoard s z := by
 unfold Vbsgae.onBoard Vbsgae.isCompany Vbsgae.between
 by_cases hz : 1 ≤ z ∧ z ≤ 8
 ·rw [decide_eq_true hz.1, decide_eq_true hz.2, Bool.true_and, Bool.true_and]
  have e : z = (z.toNat : Int) := by omega
  cases hm : Vbsgae.markerOf s.table z.toNat with
  | none =>
   rw [kv_none h.kv fun m hm' q => markerOf_none hm m hm' (by omega)]
   rfl
  | some m =>
   obtain ⟨a, h1, _⟩ := kv_some (c := z.toNat) h.kv hm
   rw [← e] at h1
   rw [h1]
   rfl
 ·have : (decide (1 ≤ z) && decide (z ≤ 8)) = false := by
   rw [Bool.and_eq_false_iff, decide_eq_false_iff_not, decide_eq_false_iff_not]
   omega
  rw [this, Bool.false_and, kv_none h.kv fun m hm q => ?_]
  ·rfl
  ·have := T.co m hm
   omega
theorem on_marker {s : State} {z : Int} (h : Vbsgae.onBoard s z = true) : ∃ (c : Nat) (m : Marker), z = (c : Int) ∧ z.toNat = c ∧ Vbsgae.markerOf s.table c = some m ∧ m ∈ s.table.markers ∧ m.company = c ∧ 1 ≤ c ∧ c ≤ 8 := by
 unfold Vbsgae.onBoard Vbsgae.isCompany Vbsgae.between at h
 rw [Bool.and_eq_true, Bool.and_eq_true, decide_eq_true_iff, decide_eq_true_iff] at h
 obtain ⟨⟨h1, h2⟩, h3⟩ := h
 obtain ⟨m, hm⟩ := Option.isSome_iff_exists.mp h3
 obtain ⟨a, b⟩ := markerOf_some hm
 exact ⟨z.toNat, m, by omega, rfl, hm, a, b, by omega, by omega⟩
def rankQual : Str := "Markers.order.<locals>.rank"
def rkSt : Stmt := (defBody szo).getD 0 (.Pass ⟨0, 0, 0, 0⟩)
def rkPos : Pos := match rkSt with
 | .FunctionDef _ _ _ _ _ _ _ _ _ p => p
 | _ => ⟨0, 0, 0, 0⟩
def isRank (c : Addr) : Heap → Prop := fun h => h.CodeRec (.ref c) rankQual
def TblOk (A : Adr) (H : Hp) : Prop := H A.pT = some (.tbl #[]) ∨ ∃ c : Addr, H A.pT = some (.tbl #[rawInt rkPos.line, rawInt rkPos.col, .ref c]) ∧ H c = some (.ext (isRank c))
theorem TblOk.keep {A : Adr} {H H' : Hp} {S : List Addr} (h : TblOk A H) (e : Kp S H H') (hp : A.pT ∉ S) (hx : ∀ b ∈ S, ∀ φ, H b ≠ some (.ext φ)) : TblOk A H' := by
 rcases h with h | ⟨c, h1, h2⟩
 ·exact .inl (e.kp _ _ h hp)
 ·exact .inr ⟨c, e.kp _ _ h1 hp, e.kp _ _ h2 fun q => hx c q _ h2⟩
theorem TblOk.keep0 {A : Adr} {H H' : Hp} (h : TblOk A H) (e : Kp [] H H') : TblOk A H' := h.keep e (by simp) fun b hb => by cases hb
structure GA where
 g : Addr
 gr : Addr
 w : Addr
 rs : List Addr
 cur : MA
 ps : Addr
 past : List MA
def GA.mut (A : Adr) (G : GA) : List Addr := G.g :: G.ps :: A.pT :: (G.cur :: G.past).flatMap MA.fp
def GA.fix (G : GA) : List Addr := G.gr :: G.w :: G.rs
abbrev gf (gr m ps : Addr) : List (Str × V) := [("grid", .ref gr), ("markers", .ref m), ("past", .ref ps)]
structure GameA (A : Adr) (H : Hp) (G : GA) (s : State) : Prop where
 ins : ∃ dg, H G.g = some (.ins A.cGame dg (gf G.gr G.cur.m G.ps))
 grid : GridA A H G.gr G.w G.rs s.board
 cur : TabA A H G.cur s.table
 pst : H G.ps = some (.lst (G.past.map fun x => V.ref x.m))
 past : Paired (TabA A H) G.past s.past.reverse
 tbl : TblOk A H
 nd : (G.mut A).Nodup
 dis : ∀ x ∈ G.fix, x ∉ G.mut A
theorem past_keep {A : Adr} {H H' : Hp} {S : List Addr} (e : Kp S H H') : ∀ {l : List MA} {ts : List Table}, Paired (TabA A H) l ts → (∀ x ∈ l, ∀ y ∈ x.fp, y ∉ S) → Paired (TabA A H') l ts
 | _, _, .nil, _ => .nil
 | _, _, .cons a t, h => .cons (a.keep e (h _ (.head _))) (past_keep e t fun x hx => h x (.tail _ hx))
theorem GameA.keep {A : Adr} {H H' : Hp} {S : List Addr} {G : GA} {s : State} (h : GameA A H G s) (e : Kp S H H') (h1 : ∀ x ∈ G.mut A, x ∉ S) (h2 : ∀ x ∈ G.fix, x ∉ S) (h3 : ∀ b ∈ S, ∀ φ, H b ≠ some (.ext φ)) : GameA A H' G s := by
 have mm : ∀ x ∈ G.cur :: G.past, ∀ y ∈ x.fp, y ∉ S := fun x hx y hy => h1 y (.tail _ (.tail _ (.tail _ (List.mem_flatMap.mpr ⟨x, hx, hy⟩))))
 refine ⟨let ⟨dg, a⟩ := h.ins; ⟨dg, e.kp _ _ a (h1 _ (.head _))⟩, h.grid.keep e (h2 _ (.head _)) (h2 _ (.tail _ (.head _))) fun r hr => h2 r (.tail _ (.tail _ hr)), h.cur.keep e (mm _ (.head _)), e.kp _ _ h.pst (h1 _ (.tail _ (.head _))),
  past_keep e h.past fun x hx => mm x (.tail _ hx), h.tbl.keep e (h1 _ (.tail _ (.tail _ (.head _)))) h3, h.nd, h.dis⟩
theorem GameA.keep0 {A : Adr} {H H' : Hp} {G : GA} {s : State} (h : GameA A H G s) (e : Kp [] H H') : GameA A H' G s := h.keep e (fun _ _ => by simp) (fun _ _ => by simp) fun b hb => by cases hb
def CallsA (K : W.Frag) (H : Hp) (a : Addr) (ns : List Int) : Prop := (∃ o, H a = some (.frz o (.lst (iVs ns)))) ∨ ((∀ H', SqL K H' a (iVs ns)))
theorem CallsA.seq {K : W.Frag} {H : Hp} {a : Addr} {ns : List Int} (h : CallsA K H a ns) : SqL K H a (iVs ns) := by
 rcases h with ⟨o, h⟩ | h
 ·exact .inl (.inr ⟨o, h⟩)
 ·exact h H
theorem CallsA.keep {K : W.Frag} {H H' : Hp} {S : List Addr} {a : Addr} {ns : List Int} (h : CallsA K H a ns) (e : Kp S H H') (hs : ∀ b ∈ S, ∀ o u, H b ≠ some (.frz o u)) : CallsA K H' a ns := by
 rcases h with ⟨o, h⟩ | h
 ·exact .inl ⟨o, e.kp _ _ h fun q => hs a q _ _ h⟩
 ·exact .inr h
def ReaderA (A : Adr) (H : Hp) (r a : Addr) (i : Nat) : Prop := ∃ dx, H r = some (.ins A.cReader dx [("calls", .ref a), ("position", nV i)])
def LLA (H : Hp) (p : Addr) (xss : List (List Nat)) : Prop := ∃ as : List Addr, H p = some (.lst (as.map V.ref)) ∧ Paired (fun a xs => H a = some (.lst (nVs xs))) as xss
end Pb
namespace Pb
open PySem PySem.Spec PyProof.Rows L2 Vb
open Vbsgae (Cell Board Marker Table State)
section
variable (K : W.Frag) (A : Adr)
def keyP (p : Pc) : List Key := [Sum.inl (p.1 : Int), Sum.inl (p.2 : Int)]
abbrev seenV (ks : List Pc) : List (List Key × V) := ks.map fun p => (keyP p, V.bl true)
def four (m : Nat) : Prop := m = 1 ∨ m = 2 ∨ m = 3 ∨ m = 4
def okMs (ms : List Nat) : Prop := ∀ m ∈ ms, 1 ≤ m ∧ m ≤ 4
def spza : Sp := fun vs H Q _ => ∃ (g dx w : Addr), vs = [.ref g, .ref w] ∧ H g = some (.ins A.cGrid dx []) ∧ ∀ H' : Hp, H' g = some (.ins A.cGrid dx [("rows", .ref w)]) → Kp [g] H H' → Q .non H'
def spzb : Sp := fun vs H Q _ => ∃ (g w : Addr) (rs : List Addr) (b : Board) (a : Addr) (r k : Int), vs = [.ref g, .ref a] ∧ GridA A H g w rs b ∧ PlZ H a r k ∧ Q (.bl (Vb.hasZ b r k)) H
def spzc : Sp := fun vs H Q _ => ∃ (g w : Addr) (rs : List Addr) (b : Board), vs = [.ref g] ∧ GridA A H g w rs b ∧ Vb.BoardGood b ∧
 ∀ (H' : Hp) (p : Addr) (as : List Addr), H' p = some (.lst (as.map V.ref)) → Paired (PlA H') as (Vbsgae.places b) → Kp [] H H' → Q (.ref p) H'
def spzd : Sp := fun vs H Q _ => ∃ (g w : Addr) (rs : List Addr) (b : Board) (a : Addr) (p : Pc), vs = [.ref g, .ref a] ∧ GridA A H g w rs b ∧ PlA H a p ∧ Vbsgae.has b p = true ∧ Q (nV (Vbsgae.cellAt b p).price) H
def spze : Sp := fun vs H Q _ => ∃ (g w : Addr) (rs : List Addr) (b : Board) (a : Addr) (p : Pc), vs = [.ref g, .ref a] ∧ GridA A H g w rs b ∧ PlA H a p ∧ Vbsgae.has b p = true ∧
 ∀ l : Addr, H l = some (.tup (nVs (Vbsgae.cellAt b p).letters)) → Q (.ref l) H
def spzf : Sp := fun vs H Q _ => ∃ (g w : Addr) (rs : List Addr) (b : Board) (a : Addr) (p : Pc) (m : Nat), vs = [.ref g, .ref a, nV m] ∧ GridA A H g w rs b ∧ PlA H a p ∧ 1 ≤ m ∧ m ≤ 4 ∧
 ∀ (H' : Hp) (a' : Addr), PlA H' a' (Vbsgae.move b p m) → Kp [] H H' → Q (.ref a') H'
def spzg : Sp := fun vs H Q _ => ∃ (g w : Addr) (rs : List Addr) (b : Board) (a : Addr) (p : Pc) (l : Addr) (ms : List Nat), vs = [.ref g, .ref a, .ref l] ∧ GridA A H g w rs b ∧ PlA H a p ∧ Vbsgae.has b p = true ∧
 SqL K H l (nVs ms) ∧ okMs ms ∧ ∀ (H' : Hp) (a' : Addr), PlA H' a' (Vbsgae.go b p ms) → Kp [] H H' → Q (.ref a') H'
def spzh : Sp := fun vs H Q _ => ∃ (g w : Addr) (rs : List Addr) (b : Board) (e d : Addr) (es : List Addr) (ps ks : List Pc), vs = [.ref g, .ref e, .ref d] ∧ GridA A H g w rs b ∧ Vb.BoardGood b ∧
 H e = some (.lst (es.map V.ref)) ∧ Paired (PlA H) es ps ∧ H d = some (.dT (seenV ks)) ∧ ks.Nodup ∧ (∀ x ∈ ks, Vbsgae.has b x = true) ∧ (∀ x ∈ ps, x ∈ ks) ∧
 ∀ (H' : Hp) (p : Addr) (as : List Addr) (qs ks' : List Pc), H' p = some (.lst (as.map V.ref)) → Paired (PlA H') as qs → H' d = some (.dT (seenV ks')) → ks'.Nodup → (∀ x ∈ ks', Vbsgae.has b x = true) →
  (∀ x, x ∈ qs ↔ x ∉ ks ∧ ∃ e ∈ ps, ∃ m, four m ∧ Vbsgae.go b e [m] = x) → (∀ x, x ∈ ks' ↔ x ∈ ks ∨ x ∈ qs) → Kp [d] H H' → Q (.ref p) H'
def stepsV (o : Option Nat) : V := match o with
 | some n => nV n
 | none => .non
def spzi : Sp := fun vs H Q _ => ∃ (g w : Addr) (rs : List Addr) (b : Board) (a c : Addr) (p q : Pc), vs = [.ref g, .ref a, .ref c] ∧ GridA A H g w rs b ∧ Vb.BoardGood b ∧ PlA H a p ∧ PlA H c q ∧ Vbsgae.has b p = true ∧
 ∀ H' : Hp, Kp [] H H' → Q (stepsV (Vbsgae.steps b p q)) H'
def spzj : Sp := fun vs H Q _ => ∃ (m dm : Addr), vs = [.ref m] ∧ H m = some (.ins A.cMarkers dm []) ∧
 ∀ (H' : Hp) (pl cl : Addr), TabA A H' ⟨m, pl, cl⟩ Vbsgae.empty → Kp [m] H H' → H pl = none → H cl = none → pl ≠ cl → Q .non H'
def spzk : Sp := fun vs H Q _ => ∃ (x : MA) (t : Table), vs = [.ref x.m] ∧ TabA A H x t ∧
 ∀ (H' : Hp) (y : MA), TabA A H' y t → Kp [] H H' → (∀ z ∈ y.fp, H z = none) → y.fp.Nodup → Q (.ref y.m) H'
def spzl : Sp := fun vs H Q _ => ∃ (x : MA) (t : Table) (c : Nat) (a : Addr) (p : Pc), vs = [.ref x.m, nV c, .ref a] ∧ TabA A H x t ∧ PlA H a p ∧ (∀ m ∈ t.markers, m.company ≠ c) ∧ t.markers.length ≤ 100 ∧
 ∀ H' : Hp, (∀ n n' : Nat, TabA A H' x ⟨t.markers ++ [⟨c, p, n⟩], n', t.closed, t.ended⟩) → Kp [x.pl] H H' → Q .non H'
def spzm : Sp := fun vs H Q _ => ∃ (x : MA) (t : Table) (g w : Addr) (rs : List Addr) (b : Board) (c : Nat) (l : Addr) (ms : List Nat) (mk : Marker), vs = [.ref x.m, .ref g, nV c, .ref l] ∧ TabA A H x t ∧ Vb.TInv b t ∧ GridA A H g w rs b ∧
 (∀ y ∈ g :: w :: rs, y ∉ x.fp) ∧ x.fp.Nodup ∧ SqL K H l (nVs ms) ∧ okMs ms ∧ Vbsgae.markerOf t c = some mk ∧ ∀ H' : Hp, TabA A H' x (Vbsgae.carried b t c ms) → Kp x.fp H H' → Q .non H'
def spzn : Sp := fun vs H Q _ => ∃ (x : MA) (t : Table) (a : Addr) (p : Pc), vs = [.ref x.m, .ref a] ∧ TabA A H x t ∧ (t.markers.map fun m => m.company).Nodup ∧ PlA H a p ∧ t.markers.length ≤ 100 ∧
 ∀ (H' : Hp) (q : Addr), H' q = some (.lst (nVs ((t.markers.filter fun m => m.place == p).map fun m => m.company))) → Kp [] H H' → Q (.ref q) H'
def spzo : Sp := fun vs H Q _ => ∃ (x : MA) (t : Table) (g w : Addr) (rs : List Addr) (b : Board), vs = [.ref x.m, .ref g] ∧ TabA A H x t ∧ Vb.TInv b t ∧ GridA A H g w rs b ∧ TblOk A H ∧
 ∀ (H' : Hp) (q : Addr), H' q = some (.lst (nVs (Vbsgae.order ⟨b, t, []⟩))) → TblOk A H' → Kp [A.pT] H H' → H q = none → Q (.ref q) H'
def spzp : Sp := fun vs H Q _ => ∃ (g dg : Addr), vs = [.ref g] ∧ H g = some (.ins A.cGame dg []) ∧ TblOk A H ∧ ∀ (H' : Hp) (G : GA), G.g = g → GameA A H' G Vbsgae.start → Kp [g] H H' → Q .non H'
def spzq : Sp := fun vs H Q _ => ∃ (G : GA) (s : State) (gr w : Addr) (rs : List Addr) (b : Board), vs = [.ref G.g, .ref gr] ∧ GameA A H G s ∧ GridA A H gr w rs b ∧ (∀ x ∈ gr :: w :: rs, x ∉ G.mut A) ∧
 ∀ (H' : Hp) (cur : MA) (ps : Addr), GameA A H' ⟨G.g, gr, w, rs, cur, ps, []⟩ ⟨b, Vbsgae.empty, []⟩ → Kp [G.g] H H' → (∀ z ∈ ps :: cur.fp, H z = none) → Q .non H'
def spzr : Sp := fun vs H Q _ => ∃ (G : GA) (s : State), vs = [.ref G.g] ∧ GameA A H G s ∧ s.past.length ≤ 50 ∧
 ∀ (H' : Hp) (past : List MA), GameA A H' { G with past := past } (Vbsgae.changed s s.table) → Kp [G.ps] H H' → (∀ x ∈ GA.mut A { G with past := past }, x ∈ G.mut A ∨ H x = none) → Q .non H'
def spzs : Sp := fun vs H Q _ => ∃ (G : GA) (s : State) (t : Table) (r : List Table), vs = [.ref G.g] ∧ GameA A H G s ∧ s.past = t :: r ∧
 ∀ (H' : Hp) (cur : MA) (past : List MA), GameA A H' { G with cur := cur, past := past } ⟨s.board, t, r⟩ → Kp [G.g, G.ps] H H' → (∀ x ∈ GA.mut A { G with cur := cur, past := past }, x ∈ G.mut A) → Q .non H'
def spzt : Sp := fun vs H Q _ => ∃ (q dx : Addr), vs = [.ref q] ∧ H q = some (.ins A.cReading dx []) ∧
 ∀ (H' : Hp) (w : Addr), H' q = some (.ins A.cReading dx [("rows", .ref w), ("wrong", .int 0)]) → H' w = some (.lst []) → H w = none → Kp [q] H H' → Q .non H'
def LLN (H0 H : Hp) (p : Addr) (xss : List (List Nat)) : Prop := ∃ as : List Addr, H p = some (.lst (as.map V.ref)) ∧ Paired (fun a xs => H a = some (.lst (nVs xs))) as xss ∧ H0 p = none ∧ ∀ a ∈ as, H0 a = none
def spzu : Sp := fun vs H Q _ => ∃ (l : Addr) (mk : Nat) (xs : List Nat), vs = [.ref l, nV mk] ∧ SqL K H l (nVs xs) ∧ xs.length ≤ 5000 ∧ ∀ (H' : Hp) (p : Addr), LLN H H' p (Vbsgae.parted mk xs) → Kp [] H H' → Q (.ref p) H'
def spzv : Sp := fun vs H Q _ => ∃ (l : Addr) (xs : List Nat), vs = [.ref l] ∧ SqL K H l (nVs xs) ∧ xs.length ≤ 5000 ∧ ∀ (H' : Hp) (p : Addr), LLN H H' p (Vbsgae.linesOf xs) → Kp [] H H' → Q (.ref p) H'
def spzw : Sp := fun vs H Q _ => ∃ (l : Addr) (xs : List Nat), vs = [.ref l] ∧ SqL K H l (nVs xs) ∧ xs.length ≤ 5000 ∧ ∀ (H' : Hp) (p : Addr), LLA H' p (Vbsgae.words xs) → Kp [] H H' → Q (.ref p) H'
def spzx : Sp := fun vs H Q _ => ∃ (l : Addr) (d : List Nat), vs = [.ref l] ∧ SqL K H l (nVs d) ∧ d.all Vbsgae.digit = true ∧ Q (nV (Vb.priceOf d)) H
def spzy : Sp := fun vs H Q _ => ∃ (l : Addr) (ls : List Nat), vs = [.ref l] ∧ H l = some (.tup (nVs ls)) ∧ ∀ H' : Hp, Kp [] H H' → Q (.bl (Vb.goodLetters ls)) H'
def CellV (H : Hp) (v : V) (o : Option Cell) : Prop := match o with
 | none => v = .non
 | some c => ∃ a, v = .ref a ∧ CellA H a c
def spzz : Sp := fun vs H Q _ => ∃ (l : Addr) (w : List Nat), vs = [.ref l] ∧ SqL K H l (nVs w) ∧ w.length ≤ 5000 ∧ ∀ (H' : Hp) (v : V), CellV H' v (Vbsgae.cellOf w) → Kp [] H H' → Q v H'
def spzA : Sp := fun vs H Q _ => ∃ (r : Addr) (row : List Cell), vs = [.ref r] ∧ RowA H r row ∧ row.length ≤ 20 ∧ ∀ H' : Hp, Kp [] H H' → Q (.bl (Vbsgae.rising (row.map fun c => c.price))) H'
def spzB : Sp := fun vs H Q _ => ∃ (r a : Addr) (row above : List Cell), vs = [.ref r, .ref a] ∧ RowA H r row ∧ RowA H a above ∧ row.length ≤ 20 ∧ above.length ≤ 20 ∧ ∀ H' : Hp, Kp [] H H' → Q (.bl (Vbsgae.under above row)) H'
def RowV (H H' : Hp) (v : V) (o : Option (List Cell)) : Prop := match o with
 | none => v = .non
 | some row => ∃ a, v = .ref a ∧ RowA H' a row ∧ H a = none
def spzC : Sp := fun vs H Q _ => ∃ (p q : Addr) (ws : List (List Nat)) (rs : List Addr) (b : Board), vs = [.ref p, .ref q] ∧ LLA H p ws ∧ (∀ w ∈ ws, w.length ≤ 5000) ∧ ws.length ≤ 5001 ∧ RowsA H q rs b ∧ Vb.BoardGood b ∧
 ∀ (H' : Hp) (v : V), RowV H H' v (Vb.rowOf b.reverse ws) → Kp [] H H' → Q v H'
def spzD : Sp := fun vs H Q _ => ∃ (l : Addr) (xs : List Nat), vs = [.ref l] ∧ SqL K H l (nVs xs) ∧ xs.length ≤ 5000 ∧ ∀ H' : Hp, Kp [] H H' → Q (.bl (Vbsgae.plain xs)) H'
def spzE : Sp := fun vs H Q _ => ∃ (q l : Addr) (xs : List Nat) (rs : List Addr) (b : Board), vs = [.ref q, .ref l] ∧ RowsA H q rs b ∧ Vb.BoardGood b ∧ q ∉ rs ∧ SqL K H l (nVs xs) ∧ xs.length ≤ 5000 ∧
 ∀ (H' : Hp) (v : Bool), ((Vb.lineOf b.reverse xs = none ∧ v = false) ∨ ∃ bk rs', Vb.lineOf b.reverse xs = some bk ∧ v = true ∧ RowsA H' q rs' bk.reverse ∧ ∀ r ∈ rs', r ∈ rs ∨ H r = none) → Kp [q] H H' → Q (.bl v) H'
def spzF : Sp := fun vs H Q _ => ∃ (l : Addr) (t : List Nat), vs = [.ref l] ∧ SqL K H l (nVs t) ∧ t.length ≤ 4000 ∧
 ∀ (H' : Hp) (q dx w : Addr) (rs : List Addr), H' q = some (.ins A.cReading dx [("rows", .ref w), ("wrong", nV (Vbsgae.read t).2)]) → ((Vbsgae.read t).2 = 0 → RowsA H' w rs (Vbsgae.read t).1 ∧ (∀ x ∈ w :: rs, H x = none)) → Kp [] H H' → Q (.ref q) H'
def spzG : Sp := fun vs H Q _ => ∃ (c : Addr) (x : Cell), vs = [.ref c] ∧ CellA H c x ∧ Vb.CellGood x ∧ ∀ (H' : Hp) (p : Addr), H' p = some (.lst (nVs (Vbsgae.shownCell x))) → H p = none → Kp [] H H' → Q (.ref p) H'
def spzH : Sp := fun vs H Q _ => ∃ (w : Addr) (rs : List Addr) (b : Board), vs = [.ref w] ∧ RowsA H w rs b ∧ Vb.BoardGood b ∧ ∀ (H' : Hp) (p : Addr), H' p = some (.lst (nVs (Vbsgae.printed b))) → Kp [] H H' → Q (.ref p) H'
def spzI : Sp := fun vs H Q _ => ∃ (r dx a : Addr), vs = [.ref r, .ref a] ∧ H r = some (.ins A.cReader dx []) ∧ ∀ H' : Hp, ReaderA A H' r a 0 → Kp [r] H H' → Q .non H'
def spzJ : Sp := fun vs H Q _ => ∃ (r a : Addr) (ns : List Int) (i : Nat), vs = [.ref r] ∧ ReaderA A H r a i ∧ CallsA K H a ns ∧ Q (.bl (decide ((i : Int) < (ns.length : Int)))) H
def spzK : Sp := fun vs H Q _ => ∃ (r a : Addr) (ns : List Int) (i : Nat) (z : Int), vs = [.ref r] ∧ ReaderA A H r a i ∧ CallsA K H a ns ∧ ns[i]? = some z ∧ ∀ H' : Hp, ReaderA A H' r a (i + 1) → Kp [r] H H' → Q (.int z) H'
def spzL : Sp := fun vs H Q _ => ∃ (r a : Addr) (ns : List Int) (i : Nat) (z y : Int), vs = [.ref r] ∧ ReaderA A H r a i ∧ CallsA K H a ns ∧ ns[i]? = some z ∧ ns[i + 1]? = some y ∧
 ∀ (H' : Hp) (p : Addr), PlZ H' p z y → ReaderA A H' r a (i + 2) → Kp [r] H H' → Q (.ref p) H'
def spzM : Sp := fun vs H Q _ => ∃ (r a : Addr) (ns : List Int) (i : Nat) (z : Int) (r2 : List Int), vs = [.ref r] ∧ ReaderA A H r a i ∧ CallsA K H a ns ∧ ns.drop i = z :: r2 ∧ 0 ≤ z ∧ z.toNat ≤ r2.length ∧
 ∀ (H' : Hp) (p : Addr), H' p = some (.lst (iVs (r2.take z.toNat))) → H p = none → ReaderA A H' r a (i + 1 + z.toNat) → Kp [r] H H' → Q (.ref p) H'
def spzN : Sp := fun vs H Q _ => ∃ (p : Addr) (xs : List V), vs = [.ref p] ∧ (SqL K H p xs ∨ SqT K H p xs) ∧ xs.length ≤ 5000 ∧ ∀ (H' : Hp) (q : Addr), H' q = some (.lst (.int (xs.length : Nat) :: xs)) → H q = none → Kp [] H H' → Q (.ref q) H'
def GmR (H : Hp) (g gr m ps : Addr) : Prop := ∃ dg, H g = some (.ins A.cGame dg (gf gr m ps))
def spzO : Sp := fun vs H Q _ => ∃ (g gr ps : Addr) (x : MA) (t : Table) (kvs : List (Key × V)) (z : Int), vs = [.ref g, .int z] ∧ GmR A H g gr x.m ps ∧ TabR A H x t kvs ∧ Q (.bl (valV kvs (Sum.inl z)).isSome) H
def spzP : Sp := fun vs H Q _ => ∃ (g gr ps w : Addr) (rs : List Addr) (b : Board) (x : MA) (t : Table) (kvs : List (Key × V)) (z : Int) (a : Addr) (p : Pc), vs = [.ref g, .int z] ∧ GmR A H g gr x.m ps ∧ TabR A H x t kvs ∧ GridA A H gr w rs b ∧
 valV kvs (Sum.inl z) = some (.ref a) ∧ PlA H a p ∧ Vbsgae.has b p = true ∧ Q (nV (Vbsgae.cellAt b p).price) H
def spzQ : Sp := fun vs H Q _ => ∃ (l : Addr) (ns : List Int), vs = [.ref l] ∧ SqL K H l (iVs ns) ∧ ns.length ≤ 100 ∧ ∀ H' : Hp, Kp [] H H' → Q (.bl (Vbsgae.areMoves ns)) H'
def spzR : Sp := fun vs H Q _ => ∃ (l : Addr) (ns : List Int), vs = [.ref l] ∧ SqL K H l (iVs ns) ∧ ns.length ≤ 100 ∧ ∀ H' : Hp, Kp [] H H' → Q (.bl (decide (ns.length = 8) && ns.all fun n => Vbsgae.between 0 n 1000000)) H'
def spzS : Sp := fun vs H Q _ => ∃ (G : GA) (s : State) (c : Nat) (l : Addr) (ms : List Nat) (mk : Marker), vs = [.ref G.g, nV c, .ref l] ∧ GameA A H G s ∧ Vb.SInv s ∧ Vbsgae.markerOf s.table c = some mk ∧ SqL K H l (nVs ms) ∧ l ∉ G.mut A ∧ okMs ms ∧
 ∀ (H' : Hp) (G' : GA) (p : Addr), G'.g = G.g → GameA A H' G' (Vbsgae.moved s c ms) → H' p = some (.lst [nV (Vbsgae.priceOf (Vbsgae.moved s c ms) c)]) → Kp (G.mut A) H H' →
  (∀ x ∈ G'.mut A ++ G'.fix, x ∈ G.mut A ++ G.fix ∨ H x = none) → Q (.ref p) H'
def spCall (j : Nat) : Sp := fun vs H Q _ => ∃ (G : GA) (r a : Addr) (ns : List Int) (i : Nat) (s : State) (c : List (List Int)) (t : List Int), vs = [.ref G.g, .ref r] ∧ GameA A H G s ∧ Vb.SInv s ∧ ReaderA A H r a i ∧ CallsA K H a ns ∧ r ∉ G.mut A ∧ r ∉ G.fix ∧
 PyFlat.call PyVbsgae.shape ((j : Int) :: ns.drop i) = some (c, t) ∧ VbsgaeNeutral.asked1 c = true ∧
 ∀ (H' : Hp) (G' : GA) (i' : Nat) (p : Addr), G'.g = G.g → GameA A H' G' (VbsgaeNeutral.step s c).1 → ReaderA A H' r a i' → ns.drop i' = t → H' p = some (.lst (iVs (VbsgaeNeutral.step s c).2)) → Kp (r :: G.mut A) H H' →
  (∀ x ∈ G'.mut A ++ G'.fix, x ∈ G.mut A ++ G.fix ∨ H x = none) → Q (.ref p) H'
def spye : Sp := fun vs H Q _ => ∃ (G : GA) (a : Addr) (ns : List Int), vs = [.ref G.g, .ref a] ∧ GameA A H G Vbsgae.start ∧ CallsA K H a ns ∧ PyVbsgae.answers_asked ns = true ∧
 ∀ (H' : Hp) (p : Addr), H' p = some (.lst (iVs (PyVbsgae.answers ns))) → Q (.ref p) H'
def spyf : Sp := fun vs H Q _ => ∃ (a : Addr) (ns : List Int), vs = [.ref a] ∧ TblOk A H ∧ CallsA K H a ns ∧ PyVbsgae.answers_asked ns = true ∧
 ∀ (H' : Hp) (p : Addr), H' p = some (.lst (iVs (PyVbsgae.answers ns))) → Q (.ref p) H'
end
end Pb
namespace Pb
open PySem PySem.Spec PyProof.Rows L2 Vb
section
variable {X : Cx} {K : W.Frag}
theorem pe_fldK {e : Expr} {f : Str} {pos : Pos} {ta : TE} (hK : X.K = K) (he : PE X e ta) (hb : attributeBase e f X.env (eval e X.env) = eval e X.env) : PE X (.Attribute e f pos) (tFld K ta f) := by subst hK; exact pe_fld he hb
theorem ix_listK (hK : X.K = K) : IxR X (rIxL K) := by subst hK; exact ix_list
theorem ix_tupK (hK : X.K = K) : IxR X (rIxT K) := by subst hK; exact ix_tup
theorem op_eqDK (hK : X.K = K) (hu : X.A.units + 64 < cLine) : OpR X (compareOp .Eq) (rEqD K) := by subst hK; exact op_eqD hu
theorem op_in_seqK (hK : X.K = K) : OpR X (compareOp .In) (rIn K false) := by subst hK; exact op_in_seq
def tTru (K : W.Frag) (ta : TE) : TT := fun σ H Q => ta σ H fun x H' => ∃ k, TruV K x H' k ∧ Q k H'
theorem pt_truthK {a : Expr} {ta : TE} (hK : X.K = K) (ha : PE X a ta) (he : ∀ whole, isTrue a X.env whole = (do let v ← whole; standAt a.pos; holding [v] (truthy v))) :
  PT X a (tTru K ta) := by subst hK; exact pt_truth ha he
end
theorem cut1 {a r : TS} {D : Ends} {σ : L2.St} {H : Hp} (h : ∀ F, F = r → tSeq a F D σ H) : tSeq a r D σ H := h r rfl
theorem cut2 {a b r : TS} {D : Ends} {σ : L2.St} {H : Hp} (h : ∀ F, F = r → tSeq a (tSeq b F) D σ H) : tSeq a (tSeq b r) D σ H := h r rfl
theorem cut3 {a b c r : TS} {D : Ends} {σ : L2.St} {H : Hp} (h : ∀ F, F = r → tSeq a (tSeq b (tSeq c F)) D σ H) : tSeq a (tSeq b (tSeq c r)) D σ H := h r rfl
theorem _root_.L2.Kp.step {S R : List Addr} {H H1 H2 : Hp} (a : Kp S H H1) (b : Kp R H1 H2) (h : ∀ x ∈ R, x ∈ S ∨ H x = none) : Kp S H H2 :=
 ⟨fun x o e n => b.kp x o (a.kp x o e n) fun q => (h x q).elim n fun z => (by rw [z] at e; cases e), fun x e => a.dom x (b.dom x e), fun x xs e => b.tup x xs (a.tup x xs e)⟩
theorem _root_.L2.Kp.step1 {S : List Addr} {H H1 H2 : Hp} {d : Addr} (a : Kp S H H1) (b : Kp [d] H1 H2) (h : H d = none) : Kp S H H2 := Kp.step a b fun x q => .inr (by
 have : x = d := by simpa using q
 rw [this]
 exact h)
abbrev Ds (Q : VK) : Ends := { nx := fun _ H' => Q .non H', rt := Q }
theorem sz {n : Nat} (h : n ≤ 1000000 := by exact Nat.le_of_ble_eq_true rfl) : n ≤ sizeLine := by rw [sizeLine_eq]; omega
theorem szlt {n : Nat} (h : n < 1000000 := by exact Nat.le_of_ble_eq_true rfl) : n < sizeLine := by rw [sizeLine_eq]; omega
theorem eqV_int {a b : Int} : eqV (.int a) (.int b) = decide (a = b) := rfl
theorem flat_i (l : List Int) : (iVs l).all flatV = true := by induction l with
 | nil => rfl
 | cons a l ih => exact ih
theorem flat_n (l : List Nat) : (nVs l).all flatV = true := by induction l with
 | nil => rfl
 | cons a l ih => exact ih
theorem inV_i (z : Int) : ∀ l : List Int, inV (.int z) (iVs l) = decide (z ∈ l)
 | [] => rfl
 | a :: l => by
  show (eqV (.int a) (.int z) || inV (.int z) (iVs l)) = _
  rw [inV_i z l, eqV_int]
  by_cases h : a = z
  ·subst h; simp
  ·rw [decide_eq_false h, Bool.false_or]
   exact decide_eq_decide.mpr ⟨fun q => .tail _ q, fun q => by cases q with
    | head => exact absurd rfl h
    | tail _ q => exact q⟩
theorem inV_n (m : Nat) : ∀ l : List Nat, inV (nV m) (nVs l) = decide (m ∈ l)
 | [] => rfl
 | a :: l => by
  show (eqV (nV a) (nV m) || inV (nV m) (nVs l)) = _
  rw [inV_n m l, eqV_int]
  by_cases h : a = m
  ·subst h; simp
  ·rw [decide_eq_false (show ¬ (a : Int) = (m : Int) by omega), Bool.false_or]
   exact decide_eq_decide.mpr ⟨fun q => .tail _ q, fun q => by cases q with
    | head => exact absurd rfl h
    | tail _ q => exact q⟩
theorem yesI {σ : L2.St} {H : Hp} {F G : Hp → Prop} (h : F H) : tYes σ H (fun b H3 => if b = true then F H3 else G H3) := by
 show if true = true then F H else G H
 rw [if_pos rfl]
 exact h
theorem inV_c (m : Nat) (l : List Nat) : inV (nV m) (nVs l) = l.contains m := by rw [inV_n]; simp
theorem dN {m n : Nat} : (decide (nV m = V.int (n : Nat)) = true) ↔ m = n := by
 rw [decide_eq_true_iff]
 exact ⟨fun h => by injection h with h; omega, fun h => by rw [h]⟩
theorem dI {m n : Int} : (decide (V.int m = V.int n) = true) ↔ m = n := by
 rw [decide_eq_true_iff]
 exact ⟨fun h => by injection h, fun h => by rw [h]⟩
theorem dT {c : Prop} [Decidable c] (h : decide c = true) : c := of_decide_eq_true h
theorem dF {c : Prop} [Decidable c] (h : ¬ decide c = true) : ¬ c := fun q => h (decide_eq_true q)
end Pb
namespace Pb
open PySem PySem.Spec PyProof.Rows L2 Vb
open Vbsgae (Cell Board Marker Table State)
def plD (p : Pc) : PyData := .tuple [.int p.1, .int p.2]
theorem plD_eqv (p q : Pc) : PyData.eqv (plD p) (plD q) = decide (p = q) := by
 obtain ⟨a, b⟩ := p
 obtain ⟨c, d⟩ := q
 show (PyData.eqv (.int a) (.int c) && (PyData.eqv (.int b) (.int d) && true)) = _
 have e1 : ∀ x y : Nat, PyData.eqv (.int (x : Int)) (.int (y : Int)) = decide (x = y) := fun x y => by
  show ((x : Int) == (y : Int)) = _
  rw [show ((x : Int) == (y : Int)) = decide ((x : Int) = y) from rfl]
  exact decide_eq_decide.mpr (by omega)
 rw [e1, e1, Bool.and_true, ← Bool.decide_and]
 exact decide_eq_decide.mpr (by rw [Prod.mk.injEq])
theorem PlA.dp {K : W.Frag} {H : Hp} {a : Addr} {p : Pc} (h : PlA H a p) : Dp K H (.ref a) (plD p) := .tup (SqT.of h) (.cons (.int _) (.cons (.int _) .nil))
theorem pls_dp {K : W.Frag} {H : Hp} : ∀ {as : List Addr} {ps : List Pc}, Paired (PlA H) as ps → DpAll K H (as.map V.ref) (ps.map plD)
 | _, _, .nil => .nil
 | _, _, .cons h t => .cons h.dp (pls_dp t)
theorem pls_lay : ∀ ps : List Pc, PyData.canLayAll0 (ps.map plD) = true
 | [] => rfl
 | p :: ps => by
  show (PyData.canLay0 (plD p) && PyData.canLayAll0 (ps.map plD)) = true
  rw [pls_lay ps]
  rfl
theorem pls_any (ps : List Pc) (q : Pc) : ((ps.map plD).any fun e => PyData.eqv e (plD q)) = decide (q ∈ ps) := by
 induction ps with
 | nil => rfl
 | cons p ps ih =>
  rw [List.map_cons, List.any_cons, ih, plD_eqv]
  by_cases h : p = q
  ·subst h; simp
  ·rw [decide_eq_false h, Bool.false_or]
   exact decide_eq_decide.mpr ⟨fun x => .tail _ x, fun x => by cases x with
    | head => exact absurd rfl h
    | tail _ x => exact x⟩
theorem keyP_inj {p q : Pc} (h : keyP p = keyP q) : p = q := by
 unfold keyP at h
 injection h with h1 h2
 injection h2 with h2 h3
 have a : (p.1 : Int) = q.1 := Sum.inl.inj h1
 have b : (p.2 : Int) = q.2 := Sum.inl.inj h2
 exact Prod.ext (by omega) (by omega)
theorem seen_val (q : Pc) : ∀ ks : List Pc, (valV (seenV ks) (keyP q)).isSome = decide (q ∈ ks)
 | [] => rfl
 | p :: ks => by
  by_cases h : p = q
  ·subst h
   rw [show seenV (p :: ks) = (keyP p, V.bl true) :: seenV ks from rfl, valV_pos rfl]
   simp
  ·rw [show seenV (p :: ks) = (keyP p, V.bl true) :: seenV ks from rfl, valV_neg (fun e => h (keyP_inj e)), seen_val q ks]
   exact decide_eq_decide.mpr ⟨fun x => .tail _ x, fun x => by cases x with
    | head => exact absurd rfl h
    | tail _ x => exact x⟩
theorem seen_put {q : Pc} {ks : List Pc} (h : q ∉ ks) : putK (seenV ks) (keyP q) (V.bl true) = seenV (ks ++ [q]) := by
 rw [putK_new]
 ·show _ = List.map _ (ks ++ [q])
  rw [List.map_append]
  rfl
 ·have := seen_val q ks
  rw [decide_eq_false h] at this
  cases e : valV (seenV ks) (keyP q) with
  | none => rfl
  | some v => rw [e] at this; cases this
def upTo (b : Board) (i : Nat) : List Pc := (List.range i).flatMap fun r => (List.range (b.getD r []).length).map fun k => (r, k)
theorem upTo_all (b : Board) : upTo b b.length = Vbsgae.places b := rfl
theorem upTo_succ (b : Board) (i : Nat) : upTo b (i + 1) = upTo b i ++ (List.range (b.getD i []).length).map fun k => (i, k) := by
 unfold upTo
 rw [List.range_succ, List.flatMap_append]
 simp
theorem row_len {b : Board} (g : BoardGood b) (i : Nat) : (b.getD i []).length ≤ 20 := by
 rw [List.getD_eq_getElem?_getD]
 cases e : b[i]? with
 | none => simp
 | some r => exact (g.rows r (List.mem_of_getElem? e)).len
theorem upTo_len {b : Board} (g : BoardGood b) : ∀ i, (upTo b i).length ≤ 20 * i
 | 0 => Nat.le_refl _
 | i + 1 => by
  rw [upTo_succ, List.length_append, List.length_map, List.length_range]
  have := upTo_len g i
  have := row_len g i
  omega
theorem places_len {b : Board} (g : BoardGood b) : (Vbsgae.places b).length ≤ 240 := by
 rw [← upTo_all]
 have := upTo_len g b.length
 have := g.len
 omega
theorem few {b : Board} (g : BoardGood b) {ks : List Pc} (nd : ks.Nodup) (h : ∀ x ∈ ks, Vbsgae.has b x = true) : ks.length ≤ 240 :=
 Nat.le_trans (nodup_subP _ _ nd fun x hx => mem_places.mpr (h x hx)) (places_len g)
theorem lc_keys {d : Addr} {o : Obj} {kvs : List (Key × V)} {g : TG} {tt : TT} {te : TE} {vs : List Nat} {σ : L2.St} {H1 : Hp} {D : Addr} {Qd : Hp → Prop} (Pv : Nat → Hp → Prop) (h0 : Pv 0 (upd H1 D (.lst []))) (hl : ∀ i H, i ≤ kvs.length → Pv i H → H d = some (.frz o (.dK kvs)))
  (hs : ∀ i k v H, kvs[i]? = some (k, v) → Pv i H → g (kV k) (wipe σ vs) H fun σ2 H2 => wipe σ2 vs = wipe σ vs ∧ tt σ2 H2 fun b H3 =>
   if b = true then te σ2 H3 fun y H4 => ∃ acc, H4 D = some (.lst acc) ∧ acc.length < sizeLine ∧ Pv (i + 1) (upd H4 D (.lst (acc ++ [y]))) else Pv (i + 1) H3) (hd : ∀ H, Pv kvs.length H → Qd H) :
  ∃ W : Nat → Nat → Hp → Prop, (∃ m, W 0 m (upd H1 D (.lst []))) ∧ ∀ i m H, W i m H →
   ((Itk d o kvs).stop i H ∧ Qd H) ∨ ((Itk d o kvs).go i H ∧ ∃ Nx : Hp → Prop, (∀ H', Nx H' → ∃ m', m' < m ∧ W (i + 1) m' H') ∧ ∀ x H', (Itk d o kvs).yld i H x H' → g x (wipe σ vs) H' fun σ2 H2 => wipe σ2 vs = wipe σ vs ∧ tt σ2 H2 fun b H3 =>
    if b = true then te σ2 H3 fun y H4 => ∃ acc, H4 D = some (.lst acc) ∧ acc.length < sizeLine ∧ Nx (upd H4 D (.lst (acc ++ [y]))) else Nx H3) := by
 refine ⟨fun i m H => m = kvs.length - i ∧ i ≤ kvs.length ∧ Pv i H, ⟨kvs.length, by simp, Nat.zero_le _, h0⟩, ?_⟩
 rintro i m H ⟨rfl, hi, p⟩
 have q := hl i H hi p
 by_cases hlt : i < kvs.length
 ·refine .inr ⟨⟨q, hlt⟩, Pv (i + 1), fun H' p' => ⟨kvs.length - (i + 1), by omega, rfl, hlt, p'⟩, fun x H' y => ?_⟩
  obtain ⟨e, k, v, hk, rfl⟩ := y
  subst e
  exact hs i k v _ hk p
 ·have e : i = kvs.length := by omega
  subst e
  exact .inl ⟨⟨q, Nat.le_refl _⟩, hd H p⟩
theorem _root_.L2.Kp.unlock {H H' : Hp} {d : Addr} {u : HO} {od : Obj} (h : H d = some u) (e : Kp [] (upd H d (.frz od u)) H') : Kp [] H (upd H' d u) := by
 have key : ∀ b o, H b = some o → upd H' d u b = some o := fun b o q => by
  by_cases hb : b = d
  ·subst hb
   rw [uS, ← h, q]
  ·rw [uN hb]
   exact e.at_ ((uN hb).trans q)
 refine ⟨fun b o q _ => key b o q, fun b q => ?_, fun b xs q => key b _ q⟩
 obtain ⟨h1, h2⟩ := upd_none q
 have := e.dom b h2
 rw [uN h1] at this
 exact this
theorem find_nd : ∀ {ms : List Marker} {m : Marker}, (ms.map fun m => m.company).Nodup → m ∈ ms → ms.find? (fun x => x.company == m.company) = some m
 | y :: ms, m, nd, h => by
  rw [List.find?_cons]
  rw [List.map_cons, List.nodup_cons] at nd
  rcases List.mem_cons.mp h with rfl | h
  ·simp
  ·have : (y.company == m.company) = false := by
    rw [beq_eq_false_iff_ne]
    intro e
    exact nd.1 (by rw [e]; exact List.mem_map_of_mem h)
   rw [this]
   exact find_nd nd.2 h
theorem kv_at {H : Hp} {kvs : List (Key × V)} {ms : List Marker} (h : Paired (KvA H) kvs ms) {i : Nat} {k : Key} {v : V} (e : kvs[i]? = some (k, v)) : ∃ m a, ms[i]? = some m ∧ k = Sum.inl (m.company : Int) ∧ v = .ref a ∧ PlA H a m.place := by
 obtain ⟨m, hm⟩ : ∃ m, ms[i]? = some m := ⟨_, List.getElem?_eq_getElem (by have := plen h; have := (List.getElem?_eq_some_iff.mp e).1; omega)⟩
 obtain ⟨kv, h1, h2, a, h3, h4⟩ := pget h hm
 rw [e] at h1
 cases h1
 exact ⟨m, a, hm, h2, h3, h4⟩
theorem fw {n : Nat} (h : n < 1000 := by exact Nat.le_of_ble_eq_true rfl) : n < 1000 := h
end Pb
namespace Pb
open PySem PySem.Spec PyProof.Rows L2 Vb
open Vbsgae (Cell Board Marker Table State)
def ntA (l : List Nat) : List PyData := l.map fun n : Nat => PyData.int (n : Int)
def ntD (l : List Nat) : PyData := .tuple (ntA l)
theorem ntA_eqv : ∀ l m : List Nat, PyData.eqvAll (ntA l) (ntA m) = decide (l = m)
 | [], [] => rfl
 | [], _ :: _ => rfl
 | _ :: _, [] => rfl
 | a :: l, b :: m => by
  show (PyData.eqv (.int (a : Int)) (.int (b : Int)) && PyData.eqvAll (ntA l) (ntA m)) = _
  rw [ntA_eqv l m]
  have : PyData.eqv (.int (a : Int)) (.int (b : Int)) = decide (a = b) := by
   show ((a : Int) == (b : Int)) = _
   rw [show ((a : Int) == (b : Int)) = decide ((a : Int) = b) from rfl]
   exact decide_eq_decide.mpr (by omega)
  rw [this, ← Bool.decide_and]
  exact decide_eq_decide.mpr (by rw [List.cons.injEq])
theorem ntD_eqv (l m : List Nat) : PyData.eqv (ntD l) (ntD m) = decide (l = m) := ntA_eqv l m
theorem ntA_lay : ∀ l : List Nat, PyData.canLayAll0 (ntA l) = true
 | [] => rfl
 | a :: l => by
  show (true && PyData.canLayAll0 (ntA l)) = true
  rw [ntA_lay l]
  rfl
theorem ntA_depth : ∀ l : List Nat, PyData.depthAll (ntA l) = 0
 | [] => rfl
 | a :: l => by
  show max 0 (PyData.depthAll (ntA l)) = 0
  rw [ntA_depth l]
  rfl
theorem ntD_ok (l : List Nat) : SeqAt.shaped (ntD l) = true := by
 show (PyData.canLayAll0 (ntA l) && decide (PyData.depthAll (ntA l) + 1 ≤ 64)) = true
 rw [ntA_lay, ntA_depth]
 rfl
theorem nt_dpA {K : W.Frag} {H : Hp} : ∀ l : List Nat, DpAll K H (nVs l) (ntA l)
 | [] => .nil
 | a :: l => .cons (.int _) (nt_dpA l)
theorem nt_dp {K : W.Frag} {H : Hp} {a : Addr} {l : List Nat} (h : H a = some (.tup (nVs l))) : Dp K H (.ref a) (ntD l) := .tup (SqT.of h) (nt_dpA l)
theorem nV_app (l m : List Nat) : nVs (l ++ m) = nVs l ++ nVs m := List.map_append
theorem iV_app (l m : List Int) : iVs (l ++ m) = iVs l ++ iVs m := List.map_append
theorem lla_ne {H : Hp} {p : Addr} {as : List Addr} {xss : List (List Nat)} (hp : H p = some (.lst (as.map V.ref))) (h : Paired (fun a xs => H a = some (.lst (nVs xs))) as xss) : p ∉ as := by
 intro q
 obtain ⟨i, hi⟩ := List.getElem?_of_mem q
 have hl := plen h
 obtain ⟨xs, hx⟩ : ∃ xs, xss[i]? = some xs := ⟨_, List.getElem?_eq_getElem (by have := (List.getElem?_eq_some_iff.mp hi).1; omega)⟩
 obtain ⟨a, h1, h2⟩ := pget h hx
 rw [hi] at h1
 cases h1
 rw [hp] at h2
 have e : as.map V.ref = nVs xs := by injection h2 with e; injection e
 cases as with
 | nil => cases q
 | cons b as =>
  cases xs with
  | nil => cases e
  | cons x xs =>
   injection e with e1 _
   cases e1
theorem lla_keep {H H' : Hp} {S : List Addr} {as : List Addr} {xss : List (List Nat)} (h : Paired (fun a xs => H a = some (.lst (nVs xs))) as xss) (e : Kp S H H') (n : ∀ a ∈ as, a ∉ S) : Paired (fun a xs => H' a = some (.lst (nVs xs))) as xss := by
 induction h with
 | nil => exact .nil
 | cons a t ih => exact .cons (e.kp _ _ a (n _ (.head _))) (ih fun x hx => n x (.tail _ hx))
theorem lla_keep0 {H H' : Hp} {as : List Addr} {xss : List (List Nat)} (h : Paired (fun a xs => H a = some (.lst (nVs xs))) as xss) (e : Kp [] H H') : Paired (fun a xs => H' a = some (.lst (nVs xs))) as xss := lla_keep h e fun _ _ => by simp
theorem n_at {l : List Nat} {i : Nat} {v : V} (h : (nVs l)[i]? = some v) : ∃ m, l[i]? = some m ∧ nV m = v := by
 rw [List.getElem?_map] at h
 exact Option.map_eq_some_iff.mp h
theorem i_at {l : List Int} {i : Nat} {v : V} (h : (iVs l)[i]? = some v) : ∃ m, l[i]? = some m ∧ V.int m = v := by
 rw [List.getElem?_map] at h
 exact Option.map_eq_some_iff.mp h
theorem r_at {l : List Addr} {i : Nat} {v : V} (h : (l.map V.ref)[i]? = some v) : ∃ m, l[i]? = some m ∧ V.ref m = v := by
 rw [List.getElem?_map] at h
 exact Option.map_eq_some_iff.mp h
theorem take_snoc {α : Type} {l : List α} {i : Nat} {x : α} (h : l[i]? = some x) : l.take (i + 1) = l.take i ++ [x] := by rw [List.take_add_one, h]; rfl
theorem drop_snoc {α : Type} {l : List α} {i : Nat} {x : α} (h : l[i]? = some x) : l.drop i = x :: l.drop (i + 1) := by
 obtain ⟨hi, he⟩ := List.getElem?_eq_some_iff.mp h
 rw [List.drop_eq_getElem_cons hi, he]
theorem psnoc {α β : Type} {F : α → β → Prop} {l : List α} {m : List β} {t : β} (h : Paired F l (m ++ [t])) : ∃ l0 y, l = l0 ++ [y] ∧ Paired F l0 m ∧ F y t := by
 induction m generalizing l with
 | nil =>
  cases h with
  | cons a r => cases r; exact ⟨[], _, rfl, .nil, a⟩
 | cons b m ih =>
  cases h with
  | cons a r =>
   obtain ⟨l0, y, rfl, h1, h2⟩ := ih r
   exact ⟨_ :: l0, y, rfl, .cons a h1, h2⟩
theorem last_split {α : Type} {l : List (List α)} (h : l ≠ []) : l = l.dropLast ++ [l.getLastD []] := by
 rcases List.eq_nil_or_concat l with rfl | ⟨m, x, rfl⟩
 ·exact absurd rfl h
 ·simp
theorem isNe {l : List Nat} : (!(nVs l).isEmpty) = !l.isEmpty := by cases l <;> rfl
theorem twDigit : ∀ (w : List Nat) (n : Nat), n ≤ (w.takeWhile Vbsgae.digit).length → (n = (w.takeWhile Vbsgae.digit).length ∧ ∀ x, w[n]? = some x → Vbsgae.digit x = false) ∨ ∃ x, w[n]? = some x ∧ Vbsgae.digit x = true ∧ n + 1 ≤ (w.takeWhile Vbsgae.digit).length
 | [], n, h => .inl ⟨by simpa using h, fun x hx => by simp at hx⟩
 | a :: w, n, h => by
  by_cases ha : Vbsgae.digit a = true
  ·rw [List.takeWhile_cons_of_pos ha] at h ⊢
   cases n with
   | zero => exact .inr ⟨a, rfl, ha, by simp⟩
   | succ n =>
    rcases twDigit w n (by simpa using h) with ⟨h1, h2⟩ | ⟨x, h1, h2, h3⟩
    ·exact .inl ⟨by simp [h1], fun x hx => h2 x (by simpa using hx)⟩
    ·exact .inr ⟨x, by simpa using h1, h2, by simpa using h3⟩
  ·have ha' : Vbsgae.digit a = false := by simpa using ha
   rw [List.takeWhile_cons_of_neg ha] at h ⊢
   have : n = 0 := by simpa using h
   subst this
   exact .inl ⟨rfl, fun x hx => by
    have : a = x := by simpa using hx
    rw [← this]; exact ha'⟩
theorem tw_all : ∀ w : List Nat, (w.takeWhile Vbsgae.digit).all Vbsgae.digit = true
 | [] => rfl
 | a :: w => by
  by_cases ha : Vbsgae.digit a = true
  ·rw [List.takeWhile_cons_of_pos ha, List.all_cons, ha, tw_all w]
   rfl
  ·rw [List.takeWhile_cons_of_neg ha]
   rfl
theorem tw_take : ∀ w : List Nat, w.take (w.takeWhile Vbsgae.digit).length = w.takeWhile Vbsgae.digit
 | [] => rfl
 | a :: w => by
  by_cases ha : Vbsgae.digit a = true
  ·rw [List.takeWhile_cons_of_pos ha, List.length_cons, List.take_succ_cons, tw_take w]
  ·rw [List.takeWhile_cons_of_neg ha]
   rfl
theorem tw_le (w : List Nat) : (w.takeWhile Vbsgae.digit).length ≤ w.length := by
 have := congrArg List.length (tw_take w)
 rw [List.length_take] at this
 omega
theorem cut_to {w : List Nat} {n : Nat} (h : n ≤ w.length) : cutV (nVs w) none (some (n : Int)) = nVs (w.take n) := by
 unfold cutV
 rw [HT.sIx_none, HT.sIx_nat, List.drop_zero, List.length_map, Nat.min_eq_left h, Nat.sub_zero]
 exact List.map_take.symm
theorem cut_from {w : List Nat} {n : Nat} (h : n ≤ w.length) : cutV (nVs w) (some (n : Int)) none = nVs (w.drop n) := by
 unfold cutV
 rw [HT.sIx_none, HT.sIx_nat, List.length_map, Nat.min_eq_left h, List.take_of_length_le (by rw [List.length_drop, List.length_map]; omega)]
 exact List.map_drop.symm
end Pb
namespace Pb
open PySem PySem.Spec PyProof.Rows L2 Vb
open Vbsgae (Cell Board Marker Table State)
section
variable (P : Program) (w : World) {K : W.Frag} {mg : Str → Option Value} (base : Heap) {A : Adr}
theorem okza (T : Txt K mg A) : FnOk P w K mg base CX0 1 A.aza A.dza ["self", "rows"] (spza A) := by
 refine T.fza.ok (k := 0) scza (fun vs H Q E h => ?_) (fun cdv Ar outer s H vs Q E hr h => ?_)
 ·obtain ⟨_, _, _, rfl, _⟩ := h; rfl
 obtain ⟨g, dx, w', rfl, hg, k⟩ := h
 refine ⟨_, (pI (ps_fld (pv 0) (pv 1) rfl)), ?_⟩
 refine ⟨_, rfl, _, rfl, g, A.cGrid, dx, _, rfl, hg, T.clGrid, T.nGr, (by show 0 < 1000; decide), ?_⟩
 exact k _ uS (.put (.head _) hg fun _ z => nomatch z)
theorem okzb (T : Txt K mg A) : FnOk P w K mg base CX0 1 A.azb A.dzb ["self", "place"] (spzb A) := by
 refine T.fzb.ok (k := 0) sczb (fun vs H Q E h => ?_) (fun cdv Ar outer s H vs Q E hr h => ?_)
 ·obtain ⟨_, _, _, _, _, _, _, rfl, _⟩ := h; rfl
 obtain ⟨g, w', rs, b, a, r, c, rfl, ⟨⟨dx, hg⟩, hw, hrs⟩, ha, k⟩ := h
 refine ⟨_, (pQ (ps_set (i := 2) sczb.nd rfl (Or.inl rfl) (pe_ix ix_tup (pv 1) pe_int (fun _ _ => rfl)))
  (pQ (ps_set (i := 3) sczb.nd rfl (Or.inl rfl) (pe_ix ix_tup (pv 1) pe_int (fun _ _ => rfl)))
  (pI (pY (pe_and (pe_chain op_le op_lt pe_int (pv 2) (pe_callB call_len_seq (by rfl) T.nlen bt_len (pA (pe_fld (pv 0) rfl) pZ))) (pe_one (pe_chain op_le op_lt pe_int (pv 3) (pe_callB call_len_seq (by rfl) T.nlen bt_len (pA (pe_ix ix_list (pe_fld (pv 0) rfl) (pv 2) (fun _ _ => rfl)) pZ))))))))), ?_⟩
 have hlen : rs.length = b.length := plen hrs
 refine ⟨_, rfl, a, _, _, _, rfl, rfl, SqT.of ha, rfl, _, rfl, a, _, _, _, rfl, rfl, SqT.of ha, rfl, _, rfl, _, _, rfl, rfl, _, rfl, ite2 (fun h1 => ?_) (fun h1 => ?_)⟩
 ·have h1' : 0 ≤ r := of_decide_eq_true h1
  refine ⟨_, rfl, g, A.cGrid, dx, _, _, rfl, hg, T.clGrid, T.nGr, rfl, w', _, rfl, .inl (SqL.of hw), _, _, rfl, rfl, _, rfl, ite2 (fun h2 => ?_) (fun h2 => ?_)⟩
  ·have h2' : r < ((rs.map V.ref).length : Int) := of_decide_eq_true h2
   rw [List.length_map] at h2'
   obtain ⟨i, rfl⟩ : ∃ i : Nat, r = (i : Int) := ⟨r.toNat, by omega⟩
   obtain ⟨row, hrow⟩ : ∃ row, b[i]? = some row := ⟨_, List.getElem?_eq_getElem (by omega)⟩
   obtain ⟨ra, hra, cs, hcs, pc⟩ := pget hrs hrow
   have hcl : cs.length = row.length := plen pc
   refine ⟨_, rfl, _, _, rfl, rfl, _, rfl, ite2 (fun h3 => ?_) (fun h3 => ?_)⟩
   ·have h3' : 0 ≤ c := of_decide_eq_true h3
    obtain ⟨j, rfl⟩ : ∃ j : Nat, c = (j : Int) := ⟨c.toNat, by omega⟩
    refine ⟨_, rfl, g, A.cGrid, dx, _, _, rfl, hg, T.clGrid, T.nGr, rfl, _, rfl, w', _, _, _, rfl, rfl, SqL.of hw, at_nat hra, ra, _, rfl, .inl (SqL.of hcs), _, _, rfl, rfl, ?_⟩
    have e : decide ((j : Int) < ((cs.map V.ref).length : Int)) = hasZ b i j := by
     rw [hasZ_of hrow, List.length_map, hcl]
     exact decide_eq_decide.mpr (by omega)
    show Q (.bl (decide ((j : Int) < ((cs.map V.ref).length : Int)))) H
    rw [e]
    exact k
   ·have h3' : ¬ 0 ≤ c := of_decide_eq_false (by simpa using h3)
    rw [hasZ_neg (.inr (by omega))] at k
    exact k
  ·have h2' : ¬ r < ((rs.map V.ref).length : Int) := of_decide_eq_false (by simpa using h2)
   rw [List.length_map] at h2'
   obtain ⟨i, rfl⟩ : ∃ i : Nat, r = (i : Int) := ⟨r.toNat, by omega⟩
   rw [hasZ_none (by omega)] at k
   exact k
 ·have h1' : ¬ 0 ≤ r := of_decide_eq_false (by simpa using h1)
  rw [hasZ_neg (.inl (by omega))] at k
  exact ⟨_, rfl, iteF k⟩
theorem okzd (T : Txt K mg A) : FnOk P w K mg base CX0 1 A.azd A.dzd ["self", "place"] (spzd A) := by
 refine T.fzd.ok (k := 0) sczd (fun vs H Q E h => ?_) (fun cdv Ar outer s H vs Q E hr h => ?_)
 ·obtain ⟨_, _, _, _, _, _, rfl, _⟩ := h; rfl
 obtain ⟨g, w', rs, b, a, p, rfl, ⟨⟨dx, hg⟩, hw⟩, ha, hp, k⟩ := h
 refine ⟨_, (pI (pY (pe_ix ix_tup (pe_ix ix_list (pe_ix ix_list (pe_fld (pv 0) rfl) (pe_ix ix_tup (pv 1) pe_int (fun _ _ => rfl)) (fun _ _ => rfl)) (pe_ix ix_tup (pv 1) pe_int (fun _ _ => rfl)) (fun _ _ => rfl)) pe_int (fun _ _ => rfl)))), ?_⟩
 obtain ⟨r, cs, c, l, e1, e2, e3, e4, e5⟩ := hw.cell hp
 exact ⟨_, rfl, g, A.cGrid, dx, _, _, rfl, hg, T.clGrid, T.nGr, rfl, _, rfl, a, _, _, _, rfl, rfl, SqT.of ha, rfl, w', _, _, _, rfl, rfl, SqL.of hw.at_, at_nat e1, _, rfl, a, _, _, _, rfl, rfl, SqT.of ha, rfl, r, _, _, _, rfl, rfl, SqL.of e2, at_nat e3, c, _, _, _, rfl, rfl, SqT.of e4, rfl, k⟩
theorem okze (T : Txt K mg A) : FnOk P w K mg base CX0 1 A.aze A.dze ["self", "place"] (spze A) := by
 refine T.fze.ok (k := 0) scze (fun vs H Q E h => ?_) (fun cdv Ar outer s H vs Q E hr h => ?_)
 ·obtain ⟨_, _, _, _, _, _, rfl, _⟩ := h; rfl
 obtain ⟨g, w', rs, b, a, p, rfl, ⟨⟨dx, hg⟩, hw⟩, ha, hp, k⟩ := h
 refine ⟨_, (pI (pY (pe_ix ix_tup (pe_ix ix_list (pe_ix ix_list (pe_fld (pv 0) rfl) (pe_ix ix_tup (pv 1) pe_int (fun _ _ => rfl)) (fun _ _ => rfl)) (pe_ix ix_tup (pv 1) pe_int (fun _ _ => rfl)) (fun _ _ => rfl)) pe_int (fun _ _ => rfl)))), ?_⟩
 obtain ⟨r, cs, c, l, e1, e2, e3, e4, e5⟩ := hw.cell hp
 exact ⟨_, rfl, g, A.cGrid, dx, _, _, rfl, hg, T.clGrid, T.nGr, rfl, _, rfl, a, _, _, _, rfl, rfl, SqT.of ha, rfl, w', _, _, _, rfl, rfl, SqL.of hw.at_, at_nat e1, _, rfl, a, _, _, _, rfl, rfl, SqT.of ha, rfl, r, _, _, _, rfl, rfl, SqL.of e2, at_nat e3, c, _, _, _, rfl, rfl, SqT.of e4, rfl, k l e5⟩
theorem okzf (T : Txt K mg A) : FnOk P w K mg base CX0 2 A.azf A.dzf ["self", "place", "move"] (spzf A) := by
 have Gzb := okzb P w base T
 refine T.fzf.ok (k := 1) sczf (fun vs H Q E h => ?_) (fun cdv Ar outer s H vs Q E hr h => ?_)
 ·obtain ⟨_, _, _, _, _, _, _, rfl, _⟩ := h; rfl
 obtain ⟨g, w', rs, b, a, p, m, rfl, hG, ha, hm1, hm4, k⟩ := h
 refine ⟨_, (pQ (ps_set (i := 3) sczf.nd rfl (Or.inl rfl) (pe_ix ix_tup (pv 1) pe_int (fun _ _ => rfl)))
  (pQ (ps_set (i := 4) sczf.nd rfl (Or.inl rfl) (pe_ix ix_tup (pv 1) pe_int (fun _ _ => rfl)))
  (pQ (ps_if (PW.pt (pw_and (pt_cmpR op_eq (pv 2) (pe_glob (v := .int (2)) rfl T.gxb ⟨_, rfl⟩) (nomark _)) (pw_and1 (pt_val (pe_meth (pv 0) T.clGrid T.mzb Gzb (hr.mono (by decide : 1 ≤ 1)) T.bzb .nil pass0 (pA (pe_tup (pA (pv 3) (pA (pe_op op_add (pv 4) pe_int) pZ))) pZ)))))) (pI (pY (pe_tup (pA (pv 3) (pA (pe_op op_add (pv 4) pe_int) pZ))))) pss_nil)
  (pQ (ps_if (PW.pt (pw_and (pt_cmpR op_eq (pv 2) (pe_glob (v := .int (4)) rfl T.gxd ⟨_, rfl⟩) (nomark _)) (pw_and1 (pt_cmpR op_gt (pv 4) pe_int (nomark _))))) (pI (pY (pe_tup (pA (pv 3) (pA (pe_op op_sub (pv 4) pe_int) pZ))))) pss_nil)
  (pQ (ps_set (i := 5) sczf.nd rfl (Or.inl rfl) (pe_ifExp (pt_cmpR op_in_seq (pv 2) (pe_tup (pA (pe_glob (v := .int (1)) rfl T.gxa ⟨_, rfl⟩) (pA (pe_glob (v := .int (2)) rfl T.gxb ⟨_, rfl⟩) pZ))) rfl) (pe_tup (pA (pe_op op_sub (pv 3) pe_int) (pA (pv 4) pZ))) (pe_tup (pA (pe_op op_add (pv 3) pe_int) (pA (pv 4) pZ)))))
  (pI (pY (pe_ifExp (pt_val (pe_meth (pv 0) T.clGrid T.mzb Gzb (hr.mono (by decide : 1 ≤ 1)) T.bzb .nil pass0 (pA (pv 5) pZ))) (pv 5) (pv 1))))))))), ?_⟩
 have hins := hG.ins
 obtain ⟨dx, hg⟩ := hins
 rw [move_eq hm1 hm4] at k
 refine cut3 fun F hF => ?_
 have fin : ∀ H1 : Hp, Kp [] H H1 → ¬ (m = 2 ∧ hasZ b p.1 ((p.2 : Int) + 1) = true) → F (Ds Q) [some (.ref g), some (.ref a), some (nV m), some (.int p.1), some (.int p.2), none] H1 := by
  intro H1 e1 n1
  subst hF
  rw [if_neg n1] at k
  refine cut1 fun F hF => ?_
  have fin2 : ¬ (m = 4 ∧ (p.2 : Int) > 0) → F (Ds Q) [some (.ref g), some (.ref a), some (nV m), some (.int p.1), some (.int p.2), none] H1 := by
   intro n2
   subst hF
   rw [if_neg n2] at k
   refine ⟨_, rfl, sz, fun t ht => ⟨t, _, rfl, .inr (SqT.of uS), rfl, rfl, _, rfl, ?_⟩⟩
   have e2 : Kp [] H (upd H1 t (.tup [.int 1, .int 2])) := e1.trans (.new ht)
   have ei : inV (nV m) [.int 1, .int 2] = decide (m ∈ [1, 2]) := inV_n m [1, 2]
   show if inV (nV m) [.int 1, .int 2] = true then _ else _
   rw [ei]
   refine ite2 (fun h => ?_) (fun h => ?_)
   ·have h' : m = 1 ∨ m = 2 := by simpa using h
    rw [if_pos h'] at k
    refine ⟨_, rfl, _, _, rfl, rfl, _, rfl, sz, fun u hu => ?_⟩
    have e3 := e2.trans (.new (p := u) (o := .tup [.int ((p.1 : Int) - 1), .int p.2]) hu)
    refine ⟨_, rfl, g, dx, _, rfl, e3.at_ hg, rfl, _, rfl, g, w', rs, b, u, _, _, rfl, hG.keep0 e3, uS, _, rfl, ite2 (fun h3 => ?_) (fun h3 => ?_)⟩
    ·rw [if_pos h3] at k
     obtain ⟨q, h5, h6, h7⟩ := hasZ_iff.mp h3
     refine ⟨_, rfl, k _ u ?_ e3⟩
     show upd _ u _ u = some (.tup [.int ((p.1 - 1 : Nat) : Int), .int p.2])
     rw [uS, show (((p.1 - 1 : Nat)) : Int) = (p.1 : Int) - 1 by omega]
    ·rw [if_neg h3] at k
     exact ⟨_, rfl, k _ a (ha.keep e3) e3⟩
   ·have h' : ¬ (m = 1 ∨ m = 2) := by simpa using h
    rw [if_neg h'] at k
    refine ⟨_, rfl, _, _, rfl, rfl, _, rfl, sz, fun u hu => ?_⟩
    have e3 := e2.trans (.new (p := u) (o := .tup [.int ((p.1 : Int) + 1), .int p.2]) hu)
    refine ⟨_, rfl, g, dx, _, rfl, e3.at_ hg, rfl, _, rfl, g, w', rs, b, u, _, _, rfl, hG.keep0 e3, uS, _, rfl, ite2 (fun h3 => ?_) (fun h3 => ?_)⟩
    ·rw [if_pos h3] at k
     exact ⟨_, rfl, k _ u uS e3⟩
    ·rw [if_neg h3] at k
     exact ⟨_, rfl, k _ a (ha.keep e3) e3⟩
  refine ⟨_, rfl, rfl, _, rfl, ite2 (fun h1 => ?_) (fun h1 => ?_)⟩
  ·have h1' : m = 4 := dN.mp h1
   refine ⟨_, rfl, _, _, rfl, rfl, _, rfl, ite2 (fun h2 => ?_) (fun h2 => fin2 fun q => h2 (decide_eq_true q.2))⟩
   rw [if_pos ⟨h1', dT h2⟩] at k
   refine ⟨_, rfl, _, rfl, _, _, rfl, rfl, sz, fun u hu => k _ u ?_ (e1.trans (.new hu))⟩
   have h2' : (0 : Int) < p.2 := dT h2
   show upd _ u _ u = some (.tup [.int p.1, .int ((p.2 - 1 : Nat) : Int)])
   rw [uS, show (((p.2 - 1 : Nat)) : Int) = (p.2 : Int) - 1 by omega]
  ·exact iteF (fin2 fun q => h1 (dN.mpr q.1))
 refine ⟨_, rfl, a, _, _, _, rfl, rfl, SqT.of ha, rfl, _, rfl, a, _, _, _, rfl, rfl, SqT.of ha, rfl, _, rfl, rfl, _, rfl, ite2 (fun h1 => ?_) (fun h1 => iteF (fin H (.refl _ _) fun q => h1 (dN.mpr q.1)))⟩
 have h1' : m = 2 := dN.mp h1
 refine ⟨_, rfl, g, dx, _, rfl, hg, rfl, _, rfl, _, rfl, _, _, rfl, rfl, sz, fun t ht => ?_⟩
 refine ⟨g, w', rs, b, t, _, _, rfl, hG.keep0 (.new ht), uS, _, rfl, ite2 (fun h2 => ?_) (fun h2 => fin _ (.new ht) fun q => h2 q.2)⟩
 rw [if_pos ⟨h1', h2⟩] at k
 exact ⟨_, rfl, _, rfl, _, _, rfl, rfl, sz, fun u hu => k _ u uS ((Kp.new ht).trans (.new hu))⟩
theorem okzg (T : Txt K mg A) : FnOk P w K mg base CX0 3 A.azg A.dzg ["self", "place", "moves"] (spzg K A) := by
 have Gze := okze P w base T
 have Gzf := okzf P w base T
 refine T.fzg.ok (k := 2) sczg (fun vs H Q E h => ?_) (fun cdv Ar outer s H vs Q E hr h => ?_)
 ·obtain ⟨_, _, _, _, _, _, _, _, rfl, _⟩ := h; rfl
 obtain ⟨g, w', rs, b, a, p, l, ms, rfl, hG, ha, hp, hl, hms, k⟩ := h
 refine ⟨_, (pQ (ps_set (i := 3) sczg.nd rfl (Or.inl rfl) (pv 1))
  (pQ (ps_for PassesOwn.never rfl (pi_list (pv 2)) (pg_name (i := 4) sczg.nd rfl (Or.inl rfl)) (pQ (ps_if (pt_cmpR op_in_seq (pe_glob (v := .int (99)) rfl T.gxg ⟨_, rfl⟩) (pe_meth (pv 0) T.clGrid T.mze Gze (hr.mono (by decide : 1 ≤ 2)) T.bze .nil pass0 (pA (pv 3) pZ)) rfl) (pI (pY (pv 3))) pss_nil)
  (pI (ps_set (i := 3) sczg.nd rfl (Or.inl rfl) (pe_meth (pv 0) T.clGrid T.mzf Gzf (hr.mono (by decide : 2 ≤ 2)) T.bzf .nil pass0 (pA (pv 3) (pA (pv 4) pZ)))))))
  (pI (pY (pv 3))))), ?_⟩
 have hins := hG.ins
 obtain ⟨dx, hg⟩ := hins
 refine ⟨_, rfl, _, rfl, l, rfl, ⟨_, hl⟩, for_list (xs := nVs ms) (fun i σ H1 => ∃ (c : Addr) (q : Pc) (v : Option V), σ = [some (.ref g), some (.ref a), some (.ref l), some (.ref c), v] ∧ Kp [] H H1 ∧ PlA H1 c q ∧ Vbsgae.has b q = true ∧ Vbsgae.go b q (ms.drop i) = Vbsgae.go b p ms) ?_ ?_ ?_ ?_⟩
 ·exact ⟨a, p, none, rfl, .refl _ _, ha, hp, rfl⟩
 ·rintro i σ H1 - ⟨c, q, v, rfl, e1, h1, h2, h3⟩
  exact e1.seq0 hl
 ·rintro i x σ H1 hx ⟨c, q, v, rfl, e1, h1, h2, h3⟩
  obtain ⟨m, hm, rfl⟩ : ∃ m, ms[i]? = some m ∧ nV m = x := by
   rw [List.getElem?_map] at hx
   exact Option.map_eq_some_iff.mp hx
  have ed : ms.drop i = m :: ms.drop (i + 1) := by
   obtain ⟨hi, he⟩ := List.getElem?_eq_some_iff.mp hm
   rw [List.drop_eq_getElem_cons hi, he]
  rw [ed, go_cons] at h3
  obtain ⟨m1, m4⟩ := hms m (List.mem_of_getElem? hm)
  refine ⟨_, rfl, g, dx, _, rfl, e1.at_ hg, rfl, _, rfl, g, w', rs, b, c, q, rfl, hG.keep0 e1, h1, h2, fun l2 hl2 => ⟨l2, _, rfl, .inr (SqT.of hl2), rfl, flat_n _, _, rfl, ?_⟩⟩
  have ei : inV (V.int 99) (nVs (Vbsgae.cellAt b q).letters) = Vbsgae.closes b q := inV_c 99 _
  show if inV (V.int 99) (nVs (Vbsgae.cellAt b q).letters) = true then _ else _
  rw [ei]
  refine ite2 (fun h => ?_) (fun h => ?_)
  ·rw [if_pos h] at h3
   exact ⟨_, rfl, k _ c (by rw [← h3]; exact h1) e1⟩
  ·rw [if_neg h] at h3
   refine ⟨_, rfl, g, dx, _, rfl, e1.at_ hg, rfl, _, rfl, _, rfl, g, w', rs, b, c, q, m, rfl, hG.keep0 e1, h1, m1, m4, fun H2 c2 h4 e2 => ?_⟩
   exact ⟨c2, _, _, rfl, e1.trans e2, h4, has_move h2, h3⟩
 ·rintro σ H1 ⟨c, q, v, rfl, e1, h1, h2, h3⟩
  refine ⟨_, rfl, k _ c ?_ e1⟩
  have hn : ms.drop (nVs ms).length = [] := by rw [List.length_map]; exact List.drop_length
  rw [hn] at h3
  rw [← h3]
  exact h1
end
end Pb
namespace Pb
open PySem PySem.Spec PyProof.Rows L2 Vb
open Vbsgae (Cell Board Marker Table State)
section
variable (P : Program) (w : World) {K : W.Frag} {mg : Str → Option Value} (base : Heap) {A : Adr}
theorem okzc (T : Txt K mg A) : FnOk P w K mg base CX0 1 A.azc A.dzc ["self"] (spzc A) := by
 refine T.fzc.ok (k := 0) sczc (fun vs H Q E h => ?_) (fun cdv Ar outer s H vs Q E hr h => ?_)
 ·obtain ⟨_, _, _, _, rfl, _⟩ := h; rfl
 obtain ⟨g, w', rs, b, rfl, hG, bg, k⟩ := h
 refine ⟨_, (pQ (ps_set (i := 1) sczc.nd rfl (Or.inl rfl) (pe_lst pZ))
  (pQ (ps_for PassesOwn.never rfl (pi_range1 rfl T.nrange (pA (pe_callB call_len_seq (by rfl) T.nlen bt_len (pA (pe_fld (pv 0) rfl) pZ)) pZ)) (pg_name (i := 2) sczc.nd rfl (Or.inr rfl)) (pI (ps_expr (pe_bm PySem.F.plainAttrs_list PySem.F.slot_list_extend PySem.F.type_list_extend mt_extend (pv 1) (pA (pe_lc (own := [("column", 3)]) rfl sczc.nd (pi_range1 rfl T.nrange (pA (pe_callB call_len_seq (by rfl) T.nlen bt_len (pA (pe_ix ix_list (pe_fld (pv 0) rfl) (pv 2) (fun _ _ => rfl)) pZ)) pZ)) (blkOk_by rfl) (fun s H C cl fp => pg_name (i := 3) sczc.nd rfl (Or.inl rfl)) (fun s H C cl fp => pts_nil) (fun s H C cl fp => (pe_tup (pA (pv 2) (pA (pv 3) pZ))))) pZ)))))
  (pI (pY (pv 1))))), ?_⟩
 have hins := hG.ins
 obtain ⟨dx, hg⟩ := hins
 have hlen : rs.length = b.length := plen hG.rows.rows
 have hb := bg.len
 refine ⟨sz, fun l hl => ?_⟩
 have e0 : Kp [] H (upd H l (.lst [])) := .new hl
 refine ⟨_, rfl, g, A.cGrid, dx, _, _, rfl, e0.at_ hg, T.clGrid, T.nGr, rfl, w', _, rfl, .inl (SqL.of (e0.at_ hG.rows.at_)), _, rfl, by omega, by rw [List.length_map]; omega, ?_⟩
 refine for_range (fun i σ H1 => ∃ (as : List Addr) (v : Option V), σ = [some (.ref g), some (.ref l), v, none] ∧ H1 l = some (.lst (as.map V.ref)) ∧ Paired (PlA H1) as (upTo b i) ∧ Kp [] H H1) ⟨[], none, rfl, uS, .nil, e0⟩ ?_ ?_
 ·rintro i σ H1 hi ⟨as, v, rfl, h1, h2, e1⟩
  rw [List.length_map] at hi
  have hi' : i < b.length := by omega
  obtain ⟨row, hrow⟩ : ∃ row, b[i]? = some row := ⟨_, List.getElem?_eq_getElem hi'⟩
  obtain ⟨ra, hra, cs, hcs, pc⟩ := pget hG.rows.rows hrow
  have hcl : cs.length = row.length := plen pc
  have hrl : row.length ≤ 20 := (bg.rows row (List.mem_of_getElem? hrow)).len
  have hgd : b.getD i [] = row := by rw [List.getD_eq_getElem?_getD, hrow]; rfl
  have hal : as.length ≤ 240 := by
   have := plen h2
   have := upTo_len bg i
   omega
  refine ⟨_, rfl, .inl ⟨rfl, _, SqL.of h1⟩, ?_⟩
  refine ⟨_, rfl, g, A.cGrid, dx, _, _, rfl, e1.at_ hg, T.clGrid, T.nGr, rfl, _, rfl, w', _, _, _, rfl, rfl, SqL.of (e1.at_ hG.rows.at_), by rw [Int.zero_add]; exact at_nat hra, ra, _, rfl, .inl (SqL.of (e1.at_ hcs)), _, rfl, by omega, by rw [List.length_map]; omega, ?_⟩
  intro D hD
  refine lc_range (fun j H2 => ∃ as2 : List Addr, H2 D = some (.lst (as2.map V.ref)) ∧ Paired (PlA H2) as2 ((List.range j).map fun k => (i, k)) ∧ Kp [] H1 H2) ⟨[], uS, .nil, .new hD⟩ ?_ ?_
  ·rintro j H2 hj ⟨as2, h3, h4, e2⟩
   rw [List.length_map] at hj
   refine ⟨rfl, yesI ⟨_, rfl, _, rfl, sz, fun t ht => ⟨_, (uN (ne_of_none h3 ht)).trans h3, ?_, as2 ++ [t], ?_, ?_, ?_⟩⟩⟩
   ·have := plen h4
    rw [List.length_map, List.length_range] at this
    exact szlt (by rw [List.length_map]; omega)
   ·rw [uS, List.map_append]
    rfl
   ·have nDt : D ≠ t := ne_of_none h3 ht
    have e3 : Kp [] H1 (upd (upd H2 t (.tup [.int (0 + (i : Int)), .int (0 + (j : Int))])) D (.lst (as2.map V.ref ++ [.ref t]))) := (e2.trans (.new ht)).put_new hD
    rw [List.range_succ, List.map_append]
    have e4 : Kp [D] H2 (upd (upd H2 t (.tup [.int (0 + (i : Int)), .int (0 + (j : Int))])) D (.lst (as2.map V.ref ++ [.ref t]))) := (Kp.new ht).trans (.put (.head _) ((uN nDt).trans h3) fun _ z => nomatch z)
    refine papp (pls_keep e4 h4) (.cons ?_ .nil)
    show upd _ _ _ t = some (.tup [.int (i : Int), .int (j : Int)])
    rw [uN nDt.symm, uS, Int.zero_add, Int.zero_add]
   ·exact (e2.trans (.new ht)).put_new hD
  ·rintro H2 ⟨as2, h3, h4, e2⟩
   have hl2 := plen h4
   rw [List.length_map, List.length_range, List.length_map] at hl2
   have h1' := e2.at_ h1
   refine ⟨l, D, _, _, rfl, rfl, h1', h3, sz (by rw [List.length_map, List.length_map]; omega), as ++ as2, _, rfl, ?_, ?_, (e1.trans e2).put_new hl⟩
   ·rw [uS, List.map_append]
   ·have e4 : Kp [l] H2 (upd H2 l (.lst (as.map V.ref ++ as2.map V.ref))) := .put (.head _) h1' fun _ z => nomatch z
    rw [upTo_succ, hgd]
    have hjn : ((((cs.map V.ref).length : Int)).toNat) = row.length := by rw [List.length_map]; omega
    rw [hjn] at h4
    exact papp (pls_keep e4 (pls_keep e2 h2)) (pls_keep e4 h4)
 ·rintro σ H1 ⟨as, v, rfl, h1, h2, e1⟩
  have hjn : ((((rs.map V.ref).length : Int)).toNat) = b.length := by rw [List.length_map]; omega
  rw [hjn, upTo_all] at h2
  exact ⟨_, rfl, k _ l as h1 h2 e1⟩
structure BeyI (H : Hp) (b : Board) (ks : List Pc) (f d : Addr) (R : Pc → Prop) (H1 : Hp) : Prop where
 ex : ∃ (as : List Addr) (qs ks' : List Pc), H1 f = some (.lst (as.map V.ref)) ∧ Paired (PlA H1) as qs ∧ H1 d = some (.dT (seenV ks')) ∧ ks'.Nodup ∧ (∀ x ∈ ks', Vbsgae.has b x = true) ∧ (∀ x, x ∈ qs ↔ x ∉ ks ∧ R x) ∧ (∀ x, x ∈ ks' ↔ x ∈ ks ∨ x ∈ qs) ∧ qs.length ≤ ks'.length
 kp : Kp [d] H H1
theorem four_iff {m : Nat} : four m ↔ m ∈ [1, 2, 3, 4] := by unfold four; simp
theorem okzh (T : Txt K mg A) : FnOk P w K mg base CX0 4 A.azh A.dzh ["self", "edge", "reached"] (spzh A) := by
 have Gzg := okzg P w base T
 refine T.fzh.ok (k := 3) sczh (fun vs H Q E h => ?_) (fun cdv Ar outer s H vs Q E hr h => ?_)
 ·obtain ⟨_, _, _, _, _, _, _, _, _, rfl, _⟩ := h; rfl
 obtain ⟨g, w', rs, b, e, d, es, ps, ks, rfl, hG, bg, he, hes, hd, nd, hh, hsub, k⟩ := h
 refine ⟨_, (pQ (ps_set (i := 3) sczh.nd rfl (Or.inl rfl) (pe_lst pZ))
  (pQ (ps_for PassesOwn.never rfl (pi_list (pv 1)) (pg_name (i := 4) sczh.nd rfl (Or.inl rfl)) (pI (ps_for PassesOwn.never rfl (pi_tup (pe_glob (v := .ref A.axe) rfl T.gxe rfl)) (pg_name (i := 5) sczh.nd rfl (Or.inl rfl)) (pQ (ps_set (i := 6) sczh.nd rfl (Or.inl rfl) (pe_meth (pv 0) T.clGrid T.mzg Gzg (hr.mono (by decide : 3 ≤ 3)) T.bzg .nil pass0 (pA (pv 4) (pA (pe_lst (pA (pv 5) pZ)) pZ))))
  (pI (ps_if (pt_cmp (pc_dnotin (hu_of hr) (pv 6) (pv 2))) (pQ (ps_dput (hu_of hr) (pv 2) (pv 6) pe_bl rfl)
  (pI (ps_expr (pe_bm PySem.F.plainAttrs_list PySem.F.slot_list_append PySem.F.type_list_append mt_append (pv 3) (pA (pv 6) pZ))))) pss_nil))))))
  (pI (pY (pv 3))))), ?_⟩
 have hins := hG.ins
 obtain ⟨dx, hg⟩ := hins
 refine ⟨sz, fun f hf => ?_⟩
 have nfd : f ≠ d := (ne_of_none hd hf).symm
 have hGk : ∀ H1, Kp [d] H H1 → GridA A H1 g w' rs b := fun H1 e1 => hG.keep e1 (by intro q; cases q with
   | head => rw [hd] at hg; cases hg
   | tail _ q => cases q) (by intro q; cases q with
   | head => have := hG.rows.at_; rw [hd] at this; cases this
   | tail _ q => cases q) (fun r hr q => by
    cases q with
    | head =>
     obtain ⟨i, hi⟩ := List.getElem?_of_mem hr
     have hl : rs.length = b.length := plen hG.rows.rows
     obtain ⟨row, hrow⟩ : ∃ row, b[i]? = some row := ⟨_, List.getElem?_eq_getElem (by have := (List.getElem?_eq_some_iff.mp hi).1; omega)⟩
     obtain ⟨r', h1, cs, h2, _⟩ := pget hG.rows.rows hrow
     rw [hi] at h1
     cases h1
     rw [hd] at h2
     cases h2
    | tail _ q => cases q)
 have hek : ∀ H1, Kp [d] H H1 → H1 e = some (.lst (es.map V.ref)) := fun H1 e1 => e1.kp _ _ he (by intro q; cases q with
   | head => rw [hd] at he; cases he
   | tail _ q => cases q)
 refine ⟨_, rfl, e, rfl, ⟨_, SqL.of ((uN (ne_of_none he hf)).trans he)⟩, for_list (xs := es.map V.ref) (fun i σ H1 => ∃ (v4 v5 v6 : Option V), σ = [some (.ref g), some (.ref e), some (.ref d), some (.ref f), v4, v5, v6] ∧ BeyI H b ks f d (fun x => ∃ y ∈ ps.take i, ∃ m, four m ∧ Vbsgae.go b y [m] = x) H1) ?_ ?_ ?_ ?_⟩
 ·refine ⟨none, none, none, rfl, ⟨[], [], ks, uS, .nil, (uN nfd.symm).trans hd, nd, hh, fun x => ?_, fun x => by simp, Nat.zero_le _⟩, (Kp.new hf)⟩
  simp
 ·rintro i σ H1 - ⟨v4, v5, v6, rfl, B⟩
  exact SqL.of (hek _ B.kp)
 ·rintro i x σ H1 hx ⟨v4, v5, v6, rfl, B⟩
  have hil : i < es.length := by have := (List.getElem?_eq_some_iff.mp hx).1; rw [List.length_map] at this; exact this
  obtain ⟨p, hp⟩ : ∃ p, ps[i]? = some p := ⟨_, List.getElem?_eq_getElem (by have := plen hes; omega)⟩
  obtain ⟨c, hc, hcp⟩ := pget hes hp
  have ex : x = .ref c := by rw [map_get hc] at hx; exact (Option.some.inj hx).symm
  subst ex
  have hpb : Vbsgae.has b p = true := hh p (hsub p (List.mem_of_getElem? hp))
  have etk : ps.take (i + 1) = ps.take i ++ [p] := by rw [List.take_add_one, hp]; rfl
  refine ⟨A.axe, rfl, ⟨_, T.txe _⟩, for_tup (xs := nVs [1, 2, 3, 4]) (fun j σ H1 => ∃ (v5 v6 : Option V), σ = [some (.ref g), some (.ref e), some (.ref d), some (.ref f), some (.ref c), v5, v6] ∧ BeyI H b ks f d (fun x => (∃ y ∈ ps.take i, ∃ m, four m ∧ Vbsgae.go b y [m] = x) ∨ ∃ m ∈ [1, 2, 3, 4].take j, Vbsgae.go b p [m] = x) H1) ?_ ?_ ?_ ?_⟩
  ·obtain ⟨⟨as, qs, ks', b1, b2, b3, b4, b5, b6, b7, b8⟩, b9⟩ := B
   refine ⟨_, _, rfl, ⟨as, qs, ks', b1, b2, b3, b4, b5, fun x => ?_, b7, b8⟩, b9⟩
   rw [b6]
   simp
  ·intro j σ H1 _ _
   exact T.txe _
  ·rintro j x σ H1 hx ⟨v5, v6, rfl, ⟨as, qs, ks', b1, b2, b3, b4, b5, b6, b7, b8⟩, b9⟩
   obtain ⟨m, hm, rfl⟩ : ∃ m, ([1, 2, 3, 4] : List Nat)[j]? = some m ∧ nV m = x := by
    rw [List.getElem?_map] at hx
    exact Option.map_eq_some_iff.mp hx
   have hm4 : four m := four_iff.mpr (List.mem_of_getElem? hm)
   have hm4' : 1 ≤ m ∧ m ≤ 4 := by unfold four at hm4; omega
   have etj : ([1, 2, 3, 4] : List Nat).take (j + 1) = [1, 2, 3, 4].take j ++ [m] := by rw [List.take_add_one, hm]; rfl
   have hg' := b9.kp _ _ hg (by intro q; cases q with
     | head => rw [hd] at hg; cases hg
     | tail _ q => cases q)
   refine ⟨_, rfl, g, dx, _, rfl, hg', rfl, _, rfl, _, rfl, sz, fun t ht => ?_⟩
   have e1 : Kp [] H1 (upd H1 t (.lst [nV m])) := .new ht
   have hok : okMs [m] := fun y hy => by
    have : y = m := by simpa using hy
    subst this
    exact hm4'
   refine ⟨g, w', rs, b, c, p, t, [m], rfl, (hGk _ b9).keep0 e1, (hcp.keep b9).keep e1, hpb, SqL.of uS, hok, fun H2 q hq e2 => ?_⟩
   have e3 : Kp [] H1 H2 := e1.trans e2
   have b1' := e3.at_ b1
   have b3' := e3.at_ b3
   have hgo : Vbsgae.has b (Vbsgae.go b p [m]) = true := has_go hpb
   refine ⟨_, rfl, _, rfl, d, _, rfl, DGet.t (k := keyP (Vbsgae.go b p [m])) b3' hq, _, rfl, ?_⟩
   rw [seen_val]
   refine ite2 (fun hn => ?_) (fun hn => ?_)
   ·have hn' : Vbsgae.go b p [m] ∉ ks' := by simpa using hn
    have hkl : ks'.length ≤ 240 := few bg b4 b5
    refine ⟨_, rfl, _, rfl, d, _, rfl, DPut.t (k := keyP (Vbsgae.go b p [m])) b3' hq (szlt (by show (List.map _ ks').length < _; rw [List.length_map]; omega)), ?_⟩
    rw [seen_put hn']
    have nfd' : f ≠ d := nfd
    have nqd : q ≠ d := ne_of hq b3' (fun z => nomatch z)
    have b1'' : upd H2 d (.dT (seenV (ks' ++ [Vbsgae.go b p [m]]))) f = some (.lst (as.map V.ref)) := (uN nfd').trans b1'
    refine ⟨_, rfl, .inl ⟨rfl, _, SqL.of b1''⟩, _, rfl, f, _, _, rfl, rfl, b1'', szlt (by have := plen b2; rw [List.length_map]; omega), ?_⟩
    have e4 : Kp [d, f] H2 (upd (upd H2 d (.dT (seenV (ks' ++ [Vbsgae.go b p [m]])))) f (.lst (as.map V.ref ++ [.ref q]))) := (Kp.put (.head _) b3' fun _ z => nomatch z).trans (.put (.tail _ (.head _)) b1'' fun _ z => nomatch z)
    refine ⟨_, _, rfl, ⟨as ++ [q], qs ++ [Vbsgae.go b p [m]], ks' ++ [Vbsgae.go b p [m]], ?_, ?_, ?_, ?_, ?_, ?_, ?_, ?_⟩, ?_⟩
    ·rw [uS, List.map_append]
     rfl
    ·exact papp (pls_keep e4 (pls_keep e3 b2)) (.cons (hq.keep e4) .nil)
    ·exact (uN nfd'.symm).trans uS
    ·rw [List.nodup_append]
     exact ⟨b4, by simp, fun x hx y hy z => by
      have : y = Vbsgae.go b p [m] := by simpa using hy
      subst this
      subst z
      exact hn' hx⟩
    ·intro x hx
     rcases List.mem_append.mp hx with hx | hx
     ·exact b5 x hx
     ·have : x = Vbsgae.go b p [m] := by simpa using hx
      subst this
      exact hgo
    ·intro x
     rw [List.mem_append, b6, etj]
     constructor
     ·rintro (⟨h1, h2 | ⟨y, hy, h2⟩⟩ | h)
      ·exact ⟨h1, .inl h2⟩
      ·exact ⟨h1, .inr ⟨y, List.mem_append_left _ hy, h2⟩⟩
      ·have : x = Vbsgae.go b p [m] := by simpa using h
       subst this
       exact ⟨fun q => hn' ((b7 _).mpr (.inl q)), .inr ⟨m, by simp, rfl⟩⟩
     ·rintro ⟨h1, h2 | ⟨y, hy, h2⟩⟩
      ·exact .inl ⟨h1, .inl h2⟩
      ·rcases List.mem_append.mp hy with hy | hy
       ·exact .inl ⟨h1, .inr ⟨y, hy, h2⟩⟩
       ·have : y = m := by simpa using hy
        subst this
        exact .inr (by simp [h2])
    ·intro x
     rw [List.mem_append, List.mem_append, b7, or_assoc]
    ·rw [List.length_append, List.length_append]
     exact Nat.add_le_add_right b8 _
    ·exact ((b9.trans e3.any).trans (.put (.head _) b3' fun _ z => nomatch z)).put_new hf
   ·have hn' : Vbsgae.go b p [m] ∈ ks' := by simpa using hn
    refine ⟨_, _, rfl, ⟨as, qs, ks', b1', pls_keep e3 b2, b3', b4, b5, fun x => ?_, b7, b8⟩, b9.trans e3.any⟩
    rw [b6, etj]
    constructor
    ·rintro ⟨h1, h2 | ⟨y, hy, h2⟩⟩
     ·exact ⟨h1, .inl h2⟩
     ·exact ⟨h1, .inr ⟨y, List.mem_append_left _ hy, h2⟩⟩
    ·rintro ⟨h1, h2 | ⟨y, hy, h2⟩⟩
     ·exact ⟨h1, .inl h2⟩
     ·rcases List.mem_append.mp hy with hy | hy
      ·exact ⟨h1, .inr ⟨y, hy, h2⟩⟩
      ·have : y = m := by simpa using hy
       subst this
       rw [← h2] at h1 ⊢
       have := (b7 _).mp hn'
       rcases this with h | h
       ·exact absurd h h1
       ·exact (b6 _).mp h
  ·rintro σ H1 ⟨v5, v6, rfl, ⟨as, qs, ks', b1, b2, b3, b4, b5, b6, b7, b8⟩, b9⟩
   refine ⟨_, _, _, rfl, ⟨as, qs, ks', b1, b2, b3, b4, b5, fun x => ?_, b7, b8⟩, b9⟩
   rw [b6, etk]
   constructor
   ·rintro ⟨h1, ⟨y, hy, h2⟩ | ⟨m, hm, h2⟩⟩
    ·exact ⟨h1, y, List.mem_append_left _ hy, h2⟩
    ·exact ⟨h1, p, by simp, m, four_iff.mpr hm, h2⟩
   ·rintro ⟨h1, y, hy, m, hm, h2⟩
    rcases List.mem_append.mp hy with hy | hy
    ·exact ⟨h1, .inl ⟨y, hy, m, hm, h2⟩⟩
    ·have : y = p := by simpa using hy
     subst this
     exact ⟨h1, .inr ⟨m, four_iff.mp hm, h2⟩⟩
 ·rintro σ H1 ⟨v4, v5, v6, rfl, ⟨as, qs, ks', b1, b2, b3, b4, b5, b6, b7, b8⟩, b9⟩
  have el : ps.take (es.map V.ref).length = ps := by rw [List.length_map, plen hes]; exact List.take_length
  rw [el] at b6
  exact ⟨_, rfl, k _ f as qs ks' b1 b2 b3 b4 b5 b6 b7 b9⟩
def cntOf (σ : L2.St) : Nat := match σ with
 | [_, _, _, _, _, some (.int n)] => n.toNat
 | _ => 0
theorem okzi (T : Txt K mg A) : FnOk P w K mg base CX0 5 A.azi A.dzi ["self", "start", "goal"] (spzi A) := by
 have Gzh := okzh P w base T
 refine T.fzi.ok (k := 4) sczi (fun vs H Q E h => ?_) (fun cdv Ar outer s H vs Q E hr h => ?_)
 ·obtain ⟨_, _, _, _, _, _, _, _, rfl, _⟩ := h; rfl
 obtain ⟨g, w', rs, b, a, c, p, q, rfl, hG, bg, ha, hc, hp, k⟩ := h
 refine ⟨_, (pQ (ps_set (i := 3) sczi.nd rfl (Or.inl rfl) (pe_dispT (hu_of hr) (pv 1) pe_bl))
  (pQ (ps_set (i := 4) sczi.nd rfl (Or.inl rfl) (pe_lst (pA (pv 1) pZ)))
  (pQ (ps_set (i := 5) sczi.nd rfl (Or.inl rfl) pe_int)
  (pQ (ps_while PassesOwn.never (pt_truth (pv 4) (fun _ => rfl)) (pQ (ps_if (pt_cmpR (op_inD hr.units66) (pv 2) (pv 4) rfl) (pI (pY (pv 5))) pss_nil)
  (pQ (ps_set (i := 4) sczi.nd rfl (Or.inl rfl) (pe_meth (pv 0) T.clGrid T.mzh Gzh (hr.mono (by decide : 4 ≤ 4)) T.bzh .nil pass0 (pA (pv 4) (pA (pv 3) pZ))))
  (pI (ps_aug (i := 5) sczi.nd rfl (Or.inl rfl) pe_int ip_add)))))
  (pI (pY pe_non)))))), ?_⟩
 have hins := hG.ins
 obtain ⟨dx, hg⟩ := hins
 intro d hd
 have e0 : Kp [] H (upd H d (.dT [])) := .new hd
 refine ⟨_, rfl, uS, keyP p, a, rfl, ha.keep e0, ?_⟩
 have e1 : Kp [] H (upd (upd H d (.dT [])) d (.dT (seenV [p]))) := e0.put_new hd
 refine ⟨_, rfl, sz, fun e he => ?_⟩
 have e2 := e1.trans (.new (p := e) (o := .lst [.ref a]) he)
 have ned : e ≠ d := by intro z; subst z; rw [uS] at he; cases he
 dsimp only [gName, tSeq, tAsg, tC]
 refine while_by (fun σ H1 => ∃ (e : Addr) (es : List Addr) (ps ks : List Pc) (n : Nat), σ = [some (.ref g), some (.ref a), some (.ref c), some (.ref d), some (.ref e), some (nV n)] ∧ H1 e = some (.lst (es.map V.ref)) ∧ Paired (PlA H1) es ps ∧ H1 d = some (.dT (seenV ks)) ∧ ks.Nodup ∧ (∀ x ∈ ks, Vbsgae.has b x = true) ∧
  Spread b p n ps ks ∧ (∀ j, j < n → ¬ Far b p j q) ∧ Kp [] H H1) (fun σ _ => 241 - cntOf σ) ?_ ?_ ?_
 ·refine ⟨e, [a], [p], [p], 0, rfl, uS, .cons (ha.keep e2) .nil, (uN ned.symm).trans uS, by simp, fun x hx => ?_, .start, fun j hj => absurd hj (Nat.not_lt_zero _), e2⟩
  have : x = p := by simpa using hx
  subst this
  exact hp
 ·rintro σ H1 ⟨e, es, ps, ks, n, rfl, h1, h2, h3, h4, h5, S, h6, e3⟩
  refine ⟨_, rfl, !(es.map V.ref).isEmpty, .inl ⟨_, SqL.of h1, rfl⟩, ite2 (fun ht => ?_) (fun ht => ?_)⟩
  ·obtain ⟨y, hy⟩ : ∃ y, y ∈ ps := by
    cases ps with
    | nil => cases h2; cases ht
    | cons y _ => exact ⟨y, .head _⟩
   have hn : n < 240 := Nat.lt_of_lt_of_le (S.lt hp hy) (places_len bg)
   refine ⟨_, rfl, _, rfl, e, _, _, _, rfl, SqL.of h1, (hc.keep e3).dp, pls_dp h2, rfl, pls_lay _, Nat.le_of_ble_eq_true rfl, _, rfl, ?_⟩
   rw [pls_any]
   refine ite2 (fun hq => ?_) (fun hq => ?_)
   ·have hq' := dT hq
    have := k H1 e3
    rw [S.found hp hq'] at this
    exact ⟨_, rfl, this⟩
   ·have hq' := dF hq
    have hg' := e3.at_ hg
    refine ⟨_, rfl, g, dx, _, rfl, hg', rfl, _, rfl, _, rfl, g, w', rs, b, e, d, es, ps, ks, rfl, hG.keep0 e3, bg, h1, h2, h3, h4, h5, fun x hx => (S.seen x).mpr ⟨n, Nat.le_refl _, (S.now x).mp hx⟩, fun H2 f as qs ks' g1 g2 g3 g4 g5 g6 g7 e4 => ?_⟩
    refine ⟨_, rfl, _, _, rfl, rfl, ⟨f, as, qs, ks', n + 1, rfl, g1, g2, g3, g4, g5, S.next hp g6 g7, fun j hj hf => ?_, ?_⟩, ?_⟩
    ·by_cases hjn : j = n
     ·subst hjn
      exact hq' ((S.now q).mpr hf)
     ·exact h6 j (by omega) hf
    ·exact Kp.step1 e3 e4 hd
    ·show 241 - ((n : Int) + 1).toNat < 241 - (n : Int).toNat
     omega
  ·have : ps = [] := by
    cases h2 with
    | nil => rfl
    | cons _ _ => exact absurd rfl ht
   subst this
   have := k H1 e3
   rw [S.none hp h6] at this
   exact this
 ·rintro σ H1 Q1 Q2 f ⟨v, h1, k', h2, h3⟩
  exact ⟨v, h1, k', h2, f _ _ h3⟩
end
end Pb
namespace Pb
open PySem PySem.Spec PyProof.Rows L2 Vb
open Vbsgae (Cell Board Marker Table State)
section
variable (P : Program) (w : World) {K : W.Frag} {mg : Str → Option Value} (base : Heap) {A : Adr}
theorem okzj (T : Txt K mg A) : FnOk P w K mg base CX0 1 A.azj A.dzj ["self"] (spzj A) := by
 refine T.fzj.ok (k := 0) sczj (fun vs H Q E h => ?_) (fun cdv Ar outer s H vs Q E hr h => ?_)
 ·obtain ⟨_, _, rfl, _⟩ := h; rfl
 obtain ⟨m, dm, rfl, hm, k⟩ := h
 refine ⟨_, (pQ (ps_fld (pv 0) pe_dnewK rfl)
  (pQ (ps_fld (pv 0) (pe_lst pZ) rfl)
  (pI (ps_fld (pv 0) pe_bl rfl)))), ?_⟩
 intro d hd
 have n1 : m ≠ d := ne_of_none hm hd
 refine ⟨_, rfl, m, A.cMarkers, dm, _, rfl, (uN n1).trans hm, T.clMarkers, T.nMp, fw, sz, fun c hc => ?_⟩
 have n2 : m ≠ c := ne_of_none uS hc
 have hc' : H c = none := by
  have := (upd_none hc).2
  exact (upd_none this).2
 have ncd : d ≠ c := by
  have := (upd_none (upd_none hc).2).1
  exact fun z => this z.symm
 refine ⟨_, rfl, m, A.cMarkers, dm, _, rfl, (uN n2).trans uS, T.clMarkers, T.nMc, fw, _, rfl, m, A.cMarkers, dm, _, rfl, uS, T.clMarkers, T.nMe, fw, ?_⟩
 refine k _ d c ⟨[], ⟨⟨dm, uS⟩, .inl ?_, .nil, ?_⟩, ?_⟩ ?_ hd hc' ncd
 ·rw [uN n1.symm, uN n1.symm, uN ncd, uN n1.symm, uS]
 ·rw [uN n2.symm, uN n2.symm, uS]
  rfl
 ·rw [uN n1.symm, uN n1.symm, uN ncd, uN n1.symm, uS]
 ·exact ((((Kp.new hd).trans (.put (.head _) ((uN n1).trans hm) fun _ z => nomatch z)).trans (.new hc)).trans (.put (.head _) ((uN n2).trans uS) fun _ z => nomatch z)).trans (.put (.head _) uS fun _ z => nomatch z)
theorem okzk (T : Txt K mg A) : FnOk P w K mg base CX0 3 A.azk A.dzk ["self"] (spzk A) := by
 have Gzj := okzj P w base T
 refine T.fzk.ok (k := 2) sczk (fun vs H Q E h => ?_) (fun cdv Ar outer s H vs Q E hr h => ?_)
 ·obtain ⟨_, _, rfl, _⟩ := h; rfl
 obtain ⟨x, t, rfl, ⟨kvs, ⟨⟨dm, hm⟩, hp, hkv, hcl⟩, hp'⟩, k⟩ := h
 refine ⟨_, (pQ (ps_set (i := 1) sczk.nd rfl (Or.inl rfl) (pe_make0 T.mkMarkers Gzj (hr.mono (by decide : 2 ≤ 2)) rfl T.gMarkers T.bzj .nil pass0))
  (pQ (ps_fld (pv 1) (pe_callTy cr_dict (by rfl) T.ndict bt_dict (pA (pe_fld (pv 0) rfl) pZ)) rfl)
  (pQ (ps_fld (pv 1) (pe_callTy call_list_of (by rfl) T.nlist bt_list (pA (pe_fld (pv 0) rfl) pZ)) rfl)
  (pQ (ps_fld (pv 1) (pe_fld (pv 0) rfl) rfl)
  (pI (pY (pv 1))))))), ?_⟩
 intro y dy ny ndy nyd
 refine ⟨y, dy, rfl, uS, fun H1 pl0 cl0 tab kp npl ncl nplcl => ⟨rfl, ?_⟩⟩
 have e1 : Kp [] H H1 := .made ny ndy kp
 obtain ⟨kv0, ⟨⟨dy', hy⟩, _⟩, _⟩ := tab
 refine ⟨_, rfl, x.m, A.cMarkers, dm, _, _, rfl, e1.at_ hm, T.clMarkers, T.nMp, rfl, x.pl, kvs, rfl, .inl (e1.at_ hp'), fun p hpn => ?_⟩
 have e2 : Kp [] H1 (upd H1 p (.dK kvs)) := .new hpn
 refine ⟨_, rfl, y, A.cMarkers, dy', _, rfl, e2.at_ hy, T.clMarkers, T.nMp, fw, ?_⟩
 have nyp : y ≠ p := ne_of_none hy hpn
 have e3 : Kp [] H (upd (upd H1 p (.dK kvs)) y (.ins A.cMarkers dy' (mf p cl0 false))) := (e1.trans e2).put_new ny
 refine ⟨_, rfl, x.m, A.cMarkers, dm, _, _, rfl, e3.at_ hm, T.clMarkers, T.nMc, rfl, x.cl, _, rfl, .inl (SqL.of (e3.at_ hcl)), fun l hl => ?_⟩
 have nyl : y ≠ l := ne_of_none uS hl
 have npl' : p ≠ l := fun z => by
  subst z
  have := (upd_none (upd_none hl).2).1
  exact this rfl
 have e4 : Kp [] H (upd (upd (upd H1 p (.dK kvs)) y (.ins A.cMarkers dy' (mf p cl0 false))) l (.lst (nVs t.closed))) := e3.trans (.new hl)
 refine ⟨_, rfl, y, A.cMarkers, dy', _, rfl, (uN nyl).trans uS, T.clMarkers, T.nMc, fw, ?_⟩
 have e5 : Kp [] H (upd (upd (upd (upd H1 p (.dK kvs)) y (.ins A.cMarkers dy' (mf p cl0 false))) l (.lst (nVs t.closed))) y (.ins A.cMarkers dy' (mf p l false))) := e4.put_new ny
 refine ⟨_, rfl, x.m, A.cMarkers, dm, _, _, rfl, e5.at_ hm, T.clMarkers, T.nMe, rfl, _, rfl, y, A.cMarkers, dy', _, rfl, uS, T.clMarkers, T.nMe, fw, _, rfl, ?_⟩
 have e6 : Kp [] H (upd (upd (upd (upd (upd H1 p (.dK kvs)) y (.ins A.cMarkers dy' (mf p cl0 false))) l (.lst (nVs t.closed))) y (.ins A.cMarkers dy' (mf p l false))) y (.ins A.cMarkers dy' (mf p l (decide (t.ended = 1))))) := e5.put_new ny
 have hpl : H p = none := e1.dom _ hpn
 have hll : H l = none := e3.dom _ hl
 have q1 : upd (upd (upd (upd (upd H1 p (.dK kvs)) y (.ins A.cMarkers dy' (mf p cl0 false))) l (.lst (nVs t.closed))) y (.ins A.cMarkers dy' (mf p l false))) y (.ins A.cMarkers dy' (mf p l (decide (t.ended = 1)))) p = some (.dK kvs) := by
  rw [uN nyp.symm, uN nyp.symm, uN npl', uN nyp.symm, uS]
 refine k _ ⟨y, p, l⟩ ⟨kvs, ⟨⟨dy', uS⟩, .inl q1, kv_keep e6 hkv, ?_⟩, q1⟩ e6 ?_ ?_
 ·show upd _ _ _ l = _
  rw [uN nyl.symm, uN nyl.symm, uS]
 ·intro z hz
  have : z = y ∨ z = p ∨ z = l := by simpa [MA.fp] using hz
  rcases this with rfl | rfl | rfl
  ·exact ny
  ·exact hpl
  ·exact hll
 ·show [y, p, l].Nodup
  simp [nyp, nyl, npl']
theorem okzl (T : Txt K mg A) : FnOk P w K mg base CX0 1 A.azl A.dzl ["self", "company", "place"] (spzl A) := by
 refine T.fzl.ok (k := 0) sczl (fun vs H Q E h => ?_) (fun cdv Ar outer s H vs Q E hr h => ?_)
 ·obtain ⟨_, _, _, _, _, rfl, _⟩ := h; rfl
 obtain ⟨x, t, c, a, p, rfl, ⟨kvs, ⟨⟨dm, hm⟩, hp, hkv, hcl⟩, hp'⟩, ha, hn, hl, k⟩ := h
 refine ⟨_, (pI (ps_dput (by exact hu_of hr) (pe_fld (pv 0) rfl) (pv 1) (pv 2) rfl)), ?_⟩
 have hlen := plen hkv
 refine ⟨_, rfl, _, rfl, x.m, A.cMarkers, dm, _, _, rfl, hm, T.clMarkers, T.nMp, rfl, _, rfl, x.pl, _, rfl, DPut.k (k := Sum.inl (c : Int)) hp' (szlt (by omega)), ?_⟩
 have nmp : x.m ≠ x.pl := ne_of hm hp' fun z => nomatch z
 have ncp : x.cl ≠ x.pl := ne_of hcl hp' fun z => nomatch z
 rw [putK_new _ (kv_none hkv fun m hm q => hn m hm (by omega))]
 have e1 : Kp [x.pl] H (upd H x.pl (.dK (kvs ++ [(Sum.inl (c : Int), .ref a)]))) := .put (.head _) hp' fun _ z => nomatch z
 refine k _ (fun n n' => ⟨kvs ++ [(Sum.inl (c : Int), .ref a)], ⟨⟨dm, (uN nmp).trans hm⟩, .inl uS, papp (kv_keep e1 hkv) (.cons ⟨rfl, a, rfl, ha.keep e1⟩ .nil), (uN ncp).trans hcl⟩, uS⟩) e1
theorem okzn (T : Txt K mg A) : FnOk P w K mg base CX0 1 A.azn A.dzn ["self", "place"] (spzn A) := by
 refine T.fzn.ok (k := 0) sczn (fun vs H Q E h => ?_) (fun cdv Ar outer s H vs Q E hr h => ?_)
 ·obtain ⟨_, _, _, _, rfl, _⟩ := h; rfl
 obtain ⟨x, t, a, p, rfl, ⟨kvs, ⟨⟨dm, hm⟩, hp, hkv, hcl⟩, hp'⟩, nd, ha, hl, k⟩ := h
 refine ⟨_, (pI (pY (pe_lock (pe_lc (own := [("company", 2)]) rfl sczn.nd (pi_keys (pe_fld (pv 0) rfl)) (blkOk_by rfl) (by intro s H C cl fp; exact pg_name (i := 2) sczn.nd rfl (Or.inl rfl)) (by intro s H C cl fp; exact (pts_one (pt_cmpR (op_eqDK (K := K) rfl (by exact hr.units)) (pe_dget (by exact hu_of hr) (pe_fldK (K := K) rfl (pv 0) rfl) (pv 2) (fun _ _ => rfl)) (pv 1) (nomark _)))) (by intro s H C cl fp; exact (pv 2)))))), ?_⟩
 have nmp : x.m ≠ x.pl := ne_of hm hp' fun z => nomatch z
 refine ⟨x.pl, .dK kvs, hp', trivial, fun od => ?_⟩
 have e1 : Kp [x.pl] H (upd H x.pl (.frz od (.dK kvs))) := .put (.head _) hp' fun _ z => nomatch z
 have hm1 := (uN (H := H) (o := .frz od (.dK kvs)) nmp).trans hm
 refine ⟨_, rfl, x.m, A.cMarkers, dm, _, _, rfl, hm1, T.clMarkers, T.nMp, rfl, x.pl, od, rfl, .inl ⟨kvs, uS, ?_⟩⟩
 intro D hD
 refine lc_keys (fun i H2 => H2 D = some (.lst (nVs (((t.markers.take i).filter fun m => m.place == p).map fun m => m.company))) ∧ Kp [] (upd H x.pl (.frz od (.dK kvs))) H2) ⟨uS, .new hD⟩ ?_ ?_ ?_
 ·rintro i H2 _ ⟨h1, e2⟩
  exact e2.at_ uS
 ·rintro i ky v H2 hk ⟨h1, e2⟩
  obtain ⟨m, am, h2, rfl, rfl, h3⟩ := kv_at hkv hk
  obtain ⟨a', h4, h5⟩ := kv_some (c := m.company) hkv (find_nd nd (List.mem_of_getElem? h2))
  refine ⟨rfl, ?_⟩
  have hd : DGet H2 x.pl (kV (Sum.inl (m.company : Int))) (some (.ref a')) := .inl ⟨kvs, _, .inr ⟨od, e2.at_ uS⟩, rfl, h4.symm⟩
  refine ⟨_, rfl, x.m, A.cMarkers, dm, _, _, rfl, e2.at_ hm1, T.clMarkers, T.nMp, rfl, _, rfl, x.pl, _, rfl, hd, _, rfl, plD m.place, plD p, ((h5.keep e1).keep e2).dp, ((ha.keep e1).keep e2).dp, rfl, rfl, _, rfl, ?_⟩
  rw [plD_eqv]
  have et : t.markers.take (i + 1) = t.markers.take i ++ [m] := by rw [List.take_add_one, h2]; rfl
  refine ite2 (fun hq => ?_) (fun hq => ?_)
  ·have hq' := dT hq
   refine ⟨_, rfl, _, h1, szlt ?_, ?_, e2.put_new hD⟩
   ·rw [List.length_map, List.length_map]
    have := List.length_filter_le (fun m : Marker => m.place == p) (t.markers.take i)
    rw [List.length_take] at this
    omega
   ·rw [uS, et, List.filter_append, List.map_append]
    show _ = some (HO.lst (nVs _))
    rw [show ([m].filter fun m => m.place == p) = [m] by simp [hq']]
    simp
    rfl
  ·have hq' := dF hq
   refine ⟨?_, e2⟩
   rw [h1, et, List.filter_append, show ([m].filter fun m => m.place == p) = [] by simp [hq'], List.append_nil]
 ·rintro H2 ⟨h1, e2⟩
  rw [plen hkv, List.take_length] at h1
  have nDp : D ≠ x.pl := (ne_of_none uS hD).symm
  exact ⟨e2.at_ uS, k _ D ((uN nDp).trans h1) (Kp.unlock hp' e2)⟩
end
end Pb
namespace Pb
open PySem PySem.Spec PyProof.Rows L2 Vb
open Vbsgae (Cell Board Marker Table State)
section
variable (P : Program) (w : World) {K : W.Frag} {mg : Str → Option Value} (base : Heap) {A : Adr}
theorem okzm (T : Txt K mg A) : FnOk P w K mg base CX0 4 A.azm A.dzm ["self", "grid", "company", "moves"] (spzm K A) := by
 have Gzg := okzg P w base T
 have Gze := okze P w base T
 have Gzl := okzl P w base T
 refine T.fzm.ok (k := 3) sczm (fun vs H Q E h => ?_) (fun cdv Ar outer s H vs Q E hr h => ?_)
 ·obtain ⟨_, _, _, _, _, _, _, _, _, _, rfl, _⟩ := h; rfl
 obtain ⟨x, t, g, w', rs, b, c, l, ms, mk, rfl, tab, TI, hG, hdis, hnd, hl, hms, hmk, k⟩ := h
 refine ⟨_, (pQ (ps_set (i := 4) sczm.nd rfl (Or.inl rfl) (pe_dget (by exact hu_of hr) (pe_fld (pv 0) rfl) (pv 2) (fun _ _ => rfl)))
  (pQ (ps_set (i := 5) sczm.nd rfl (Or.inl rfl) (pe_meth (pv 1) T.clGrid T.mzg Gzg (hr.mono (by decide : 3 ≤ 3)) T.bzg .nil pass0 (pA (pv 4) (pA (pv 3) pZ))))
  (pQ (ps_if (pt_cmpR (op_eqD (by exact hr.units)) (pv 5) (pv 4) (nomark _)) (pI ps_retN) pss_nil)
  (pQ (ps_expr (pe_dpop1 (pe_fld (pv 0) rfl) (pv 2) ⟨rfl, rfl, rfl, rfl⟩))
  (pQ (ps_set (i := 6) sczm.nd rfl (Or.inl rfl) (pe_meth (pv 1) T.clGrid T.mze Gze (hr.mono (by decide : 1 ≤ 3)) T.bze .nil pass0 (pA (pv 5) pZ)))
  (pQ (ps_if (pt_cmpR op_in_seq (pe_glob (v := .int (99)) rfl T.gxg ⟨_, rfl⟩) (pv 6) rfl) (pI (ps_expr (pe_bm PySem.F.plainAttrs_list PySem.F.slot_list_append PySem.F.type_list_append mt_append (pe_fld (pv 0) rfl) (pA (pv 2) pZ)))) (pI (ps_expr (pe_meth (pv 0) T.clMarkers T.mzl Gzl (hr.mono (by decide : 1 ≤ 3)) T.bzl .nil pass0 (pA (pv 2) (pA (pv 5) pZ))))))
  (pI (ps_if (pt_cmpR op_in_seq (pe_glob (v := .int (101)) rfl T.gxh ⟨_, rfl⟩) (pv 6) rfl) (pI (ps_fld (pv 0) pe_bl rfl)) pss_nil)))))))), ?_⟩
 have tab0 := tab
 obtain ⟨kvs, ⟨⟨dm, hm⟩, hp, hkv, hcl⟩, hp'⟩ := tab
 obtain ⟨a, hv, ha⟩ := kv_some hkv hmk
 obtain ⟨mm, mc⟩ := markerOf_some hmk
 have hpb := TI.pl mk mm
 have hins := hG.ins
 obtain ⟨dg, hg⟩ := hins
 have hdg : DGet H x.pl (kV (Sum.inl (c : Int))) (some (.ref a)) := .inl ⟨kvs, _, .inl hp', rfl, hv.symm⟩
 refine ⟨_, rfl, x.m, A.cMarkers, dm, _, _, rfl, hm, T.clMarkers, T.nMp, rfl, _, rfl, x.pl, _, rfl, hdg, _, rfl, g, dg, _, rfl, hg, rfl, _, rfl, _, rfl, g, w', rs, b, a, mk.place, l, ms, rfl, hG, ha, hpb, hl, hms, fun H1 a1 ha1 e1 => ?_⟩
 refine ⟨_, rfl, _, rfl, plD _, plD mk.place, ha1.dp, (ha.keep e1).dp, rfl, rfl, _, rfl, ?_⟩
 rw [plD_eqv]
 have hc0 : Vbsgae.carried b t c ms = if Vbsgae.go b mk.place ms = mk.place then t else
   if Vbsgae.closes b (Vbsgae.go b mk.place ms) = true then ⟨Vbsgae.without t c, t.next, t.closed ++ [c], if (Vbsgae.cellAt b (Vbsgae.go b mk.place ms)).letters.contains 101 = true then 1 else t.ended⟩
   else ⟨Vbsgae.without t c ++ [⟨c, Vbsgae.go b mk.place ms, t.next⟩], t.next + 1, t.closed, if (Vbsgae.cellAt b (Vbsgae.go b mk.place ms)).letters.contains 101 = true then 1 else t.ended⟩ := by
  unfold Vbsgae.carried
  rw [hmk]
 rw [hc0] at k
 have hqb : Vbsgae.has b (Vbsgae.go b mk.place ms) = true := has_go hpb
 generalize Vbsgae.go b mk.place ms = q at k ha1 hqb
 refine ite2 (fun hq => ?_) (fun hq => ?_)
 ·have hq' := dT hq
  rw [if_pos hq'] at k
  exact k H1 (tab0.keep0 e1) e1.any
 have hq' := dF hq
 rw [if_neg hq'] at k
 refine ⟨_, rfl, x.m, A.cMarkers, dm, _, _, rfl, e1.at_ hm, T.clMarkers, T.nMp, rfl, x.pl, rfl, .inl ⟨_, .inl (e1.at_ hp')⟩, _, rfl, kvs, Sum.inl (c : Int), _, e1.at_ hp', rfl, hv, ?_⟩
 have mpl : x.pl ∈ x.fp := .tail _ (.head _)
 have mcl : x.cl ∈ x.fp := .tail _ (.tail _ (.head _))
 have mm0 : x.m ∈ x.fp := .head _
 have e12 : Kp [x.pl] H1 (upd H1 x.pl (.dK (dropK kvs (Sum.inl (c : Int))))) := .put (.head _) (e1.at_ hp') fun _ z => nomatch z
 have e2 : Kp [x.pl] H (upd H1 x.pl (.dK (dropK kvs (Sum.inl (c : Int))))) := e1.any.trans e12
 have sub : ∀ y ∈ [x.pl], y ∈ x.fp := fun y hy => by
  have : y = x.pl := by simpa using hy
  rw [this]
  exact mpl
 have e2f := e2.mono sub
 have hG2 := hG.keep e2f (hdis g (.head _)) (hdis w' (.tail _ (.head _))) (fun r hr => hdis r (.tail _ (.tail _ hr)))
 have hg2 := e2f.kp _ _ hg (hdis g (.head _))
 have nmp : x.m ≠ x.pl := ne_of hm hp' fun z => nomatch z
 have ncp : x.cl ≠ x.pl := ne_of hcl hp' fun z => nomatch z
 have hm2 := (uN (o := .dK (dropK kvs (Sum.inl (c : Int)))) nmp).trans (e1.at_ hm)
 have hcl2 := (uN (o := .dK (dropK kvs (Sum.inl (c : Int)))) ncp).trans (e1.at_ hcl)
 have ha2 := ha1.keep e12
 have hkv2 : Paired (KvA (upd H1 x.pl (.dK (dropK kvs (Sum.inl (c : Int)))))) (dropK kvs (Sum.inl (c : Int))) (Vbsgae.without t c) := kv_drop (kv_keep e2 hkv)
 refine ⟨_, rfl, g, dg, _, rfl, hg2, rfl, _, rfl, g, w', rs, b, a1, q, rfl, hG2, ha2, hqb, fun l2 hl2 => ?_⟩
 dsimp only [gName]
 refine cut1 fun F hF => ?_
 have fin : ∀ (H3 : Hp) (t' : Table), TabA A H3 x t' → t'.ended = t.ended → Kp x.fp H H3 → H3 l2 = some (.tup (nVs (Vbsgae.cellAt b q).letters)) → (∀ H4, TabA A H4 x ⟨t'.markers, t'.next, t'.closed, if (Vbsgae.cellAt b q).letters.contains 101 = true then 1 else t.ended⟩ → Kp x.fp H H4 → Q .non H4) →
   F (Ds Q) [some (.ref x.m), some (.ref g), some (nV c), some (.ref l), some (.ref a), some (.ref a1), some (.ref l2)] H3 := by
  intro H3 t' tab' et e3 h3 kk
  subst hF
  refine ⟨_, rfl, l2, _, rfl, .inr (SqT.of h3), rfl, flat_n _, _, rfl, ?_⟩
  have ei : inV (V.int 101) (nVs (Vbsgae.cellAt b q).letters) = (Vbsgae.cellAt b q).letters.contains 101 := inV_c 101 _
  show if inV (V.int 101) (nVs (Vbsgae.cellAt b q).letters) = true then _ else _
  rw [ei]
  obtain ⟨kvs3, ⟨⟨dm3, hm3⟩, hp3, hkv3, hcl3⟩, hp3'⟩ := tab'
  refine ite2 (fun hq => ?_) (fun hq => ?_)
  ·rw [if_pos hq] at kk
   have n1 : x.pl ≠ x.m := (ne_of hm3 hp3' fun z => nomatch z).symm
   have n2 : x.cl ≠ x.m := (ne_of hm3 hcl3 fun z => nomatch z).symm
   have e4 : Kp x.fp H3 (upd H3 x.m (.ins A.cMarkers dm3 (mf x.pl x.cl true))) := .put mm0 hm3 fun _ z => nomatch z
   refine ⟨_, rfl, x.m, A.cMarkers, dm3, _, rfl, hm3, T.clMarkers, T.nMe, fw, ?_⟩
   exact kk _ ⟨kvs3, ⟨⟨dm3, uS⟩, .inl ((uN n1).trans hp3'), kv_keep e4 hkv3, (uN n2).trans hcl3⟩, (uN n1).trans hp3'⟩ (e3.trans e4)
  ·rw [if_neg hq, ← et] at kk
   exact kk H3 ⟨kvs3, ⟨⟨dm3, hm3⟩, hp3, hkv3, hcl3⟩, hp3'⟩ e3
 refine ⟨_, rfl, l2, _, rfl, .inr (SqT.of hl2), rfl, flat_n _, _, rfl, ?_⟩
 have ei : inV (V.int 99) (nVs (Vbsgae.cellAt b q).letters) = Vbsgae.closes b q := inV_c 99 _
 show if inV (V.int 99) (nVs (Vbsgae.cellAt b q).letters) = true then _ else _
 rw [ei]
 refine ite2 (fun hc => ?_) (fun hc => ?_)
 ·rw [if_pos hc] at k
  refine ⟨_, rfl, x.m, A.cMarkers, dm, _, _, rfl, hm2, T.clMarkers, T.nMc, rfl, .inl ⟨rfl, _, SqL.of hcl2⟩, _, rfl, x.cl, _, _, rfl, rfl, hcl2, szlt (by rw [List.length_map]; have := TI.clen; omega), ?_⟩
  have e4 : Kp x.fp (upd H1 x.pl (.dK (dropK kvs (Sum.inl (c : Int))))) (upd (upd H1 x.pl (.dK (dropK kvs (Sum.inl (c : Int))))) x.cl (.lst (nVs t.closed ++ [nV c]))) := .put mcl hcl2 fun _ z => nomatch z
  have n1 : x.m ≠ x.cl := ne_of hm hcl fun z => nomatch z
  refine fin _ ⟨Vbsgae.without t c, t.next, t.closed ++ [c], t.ended⟩ ⟨_, ⟨⟨dm, (uN n1).trans hm2⟩, .inl ((uN ncp.symm).trans uS), kv_keep e4 hkv2, ?_⟩, (uN ncp.symm).trans uS⟩ rfl (e2f.trans e4) (e4.tup _ _ hl2) k
  rw [uS]
  exact congrArg (fun z => some (HO.lst z)) (List.map_append (f := nV) (l₁ := t.closed) (l₂ := [c])).symm
 ·rw [if_neg hc] at k
  refine ⟨_, rfl, x.m, dm, _, rfl, hm2, rfl, _, rfl, _, rfl, x, ⟨Vbsgae.without t c, t.next, t.closed, t.ended⟩, c, a1, q, rfl, ⟨_, ⟨⟨dm, hm2⟩, .inl uS, hkv2, hcl2⟩, uS⟩, ha2, fun m hm' e => ?_, ?_, fun H3 tab3 e3 => ?_⟩
  ·have := (List.mem_filter.mp hm').2
   simp [e] at this
  ·have := TI.len
   have h2 := List.length_filter_le (fun m : Marker => m.company != c) t.markers
   show (List.filter _ t.markers).length ≤ 100
   omega
  ·exact fin _ ⟨Vbsgae.without t c ++ [⟨c, q, t.next⟩], t.next + 1, t.closed, t.ended⟩ (tab3 t.next (t.next + 1)) rfl (e2f.trans (e3.mono sub)) (e3.tup _ _ hl2) k
end
end Pb
namespace Pb
open PySem PySem.Spec PyProof.Rows L2 Vb
open Vbsgae (Cell Board Marker Table State)
section
variable (P : Program) (w : World) {K : W.Frag} {mg : Str → Option Value} (base : Heap) {A : Adr}
theorem GridA.ats {H : Hp} {g w : Addr} {rs : List Addr} {b : Board} (h : GridA A H g w rs b) : ∀ x ∈ g :: w :: rs, ∃ o, H x = some o := by
 intro x hx
 rcases List.mem_cons.mp hx with rfl | hx
 ·exact h.ins.elim fun _ q => ⟨_, q⟩
 rcases List.mem_cons.mp hx with rfl | hx
 ·exact ⟨_, h.rows.at_⟩
 obtain ⟨i, hi⟩ := List.getElem?_of_mem hx
 have hl : rs.length = b.length := plen h.rows.rows
 obtain ⟨row, hrow⟩ : ∃ row, b[i]? = some row := ⟨_, List.getElem?_eq_getElem (by have := (List.getElem?_eq_some_iff.mp hi).1; omega)⟩
 obtain ⟨r', h1, cs, h2, _⟩ := pget h.rows.rows hrow
 rw [hi] at h1
 cases h1
 exact ⟨_, h2⟩
theorem TabA.ats {H : Hp} {x : MA} {t : Table} (h : TabA A H x t) : ∀ y ∈ x.fp, ∃ o, H y = some o := by
 obtain ⟨kvs, ⟨⟨dm, h1⟩, h2, h3, h4⟩, h5⟩ := h
 intro y hy
 have : y = x.m ∨ y = x.pl ∨ y = x.cl := by simpa [MA.fp] using hy
 rcases this with rfl | rfl | rfl
 ·exact ⟨_, h1⟩
 ·exact ⟨_, h5⟩
 ·exact ⟨_, h4⟩
theorem TblOk.ats {H : Hp} (h : TblOk A H) : ∃ o, H A.pT = some o := by
 rcases h with h | ⟨c, h, _⟩
 ·exact ⟨_, h⟩
 ·exact ⟨_, h⟩
theorem past_some {H : Hp} : ∀ {l : List MA} {ts : List Table}, Paired (TabA A H) l ts → ∀ x ∈ l, ∀ y ∈ x.fp, ∃ o, H y = some o
 | _, _, .nil, x, hx => by cases hx
 | _, _, .cons a t, x, hx => by
  rcases List.mem_cons.mp hx with rfl | hx
  ·exact a.ats
  ·exact past_some t x hx
theorem GameA.ats {H : Hp} {G : GA} {s : State} (h : GameA A H G s) : ∀ x ∈ G.mut A ++ G.fix, ∃ o, H x = some o := by
 intro x hx
 rcases List.mem_append.mp hx with hx | hx
 ·unfold GA.mut at hx
  rcases List.mem_cons.mp hx with rfl | hx
  ·exact h.ins.elim fun _ q => ⟨_, q⟩
  rcases List.mem_cons.mp hx with rfl | hx
  ·exact ⟨_, h.pst⟩
  rcases List.mem_cons.mp hx with rfl | hx
  ·exact h.tbl.ats
  obtain ⟨y, hy, hx⟩ := List.mem_flatMap.mp hx
  rcases List.mem_cons.mp hy with rfl | hy
  ·exact h.cur.ats x hx
  ·exact past_some h.past y hy x hx
 ·exact h.grid.ats x hx
theorem ne_some {H : Hp} {x y : Addr} (h1 : ∃ o, H x = some o) (h2 : H y = none) : x ≠ y := fun e => by
 obtain ⟨o, h⟩ := h1
 rw [e, h2] at h
 cases h
theorem game_new {H' : Hp} {g gr w' m pl cl ps dg : Addr} {rs : List Addr} {b : Board} (ins : H' g = some (.ins A.cGame dg (gf gr m ps))) (grid : GridA A H' gr w' rs b) (tab : TabA A H' ⟨m, pl, cl⟩ Vbsgae.empty) (hps : H' ps = some (.lst [])) (tbl : TblOk A H')
  (nd : [g, ps, A.pT, m, pl, cl].Nodup) (dis : ∀ x ∈ gr :: w' :: rs, x ∉ [g, ps, A.pT, m, pl, cl]) : GameA A H' ⟨g, gr, w', rs, ⟨m, pl, cl⟩, ps, []⟩ ⟨b, Vbsgae.empty, []⟩ :=
 ⟨⟨dg, ins⟩, grid, tab, hps, .nil, tbl, nd, dis⟩
theorem nd6 {a b c d e f : Addr} (h1 : a ≠ b) (h2 : a ≠ c) (h3 : a ≠ d) (h4 : a ≠ e) (h5 : a ≠ f) (h6 : b ≠ c) (h7 : b ≠ d) (h8 : b ≠ e) (h9 : b ≠ f) (i1 : c ≠ d) (i2 : c ≠ e) (i3 : c ≠ f) (i4 : d ≠ e) (i5 : d ≠ f) (i6 : e ≠ f) : [a, b, c, d, e, f].Nodup := by
 simp [h1, h2, h3, h4, h5, h6, h7, h8, h9, i1, i2, i3, i4, i5, i6]
structure NewM (H1 H2 : Hp) (A : Adr) (m pl cl : Addr) : Prop where
 tab : TabA A H2 ⟨m, pl, cl⟩ Vbsgae.empty
 kp : Kp [] H1 H2
 n1 : H1 m = none
 n2 : H1 pl = none
 n3 : H1 cl = none
 d1 : m ≠ pl
 d2 : m ≠ cl
 d3 : pl ≠ cl
theorem newM {H1 H2 : Hp} {m dm pl cl : Addr} (nm : H1 m = none) (ndm : H1 dm = none) (tab : TabA A H2 ⟨m, pl, cl⟩ Vbsgae.empty) (kp : Kp [m] (upd (upd H1 dm (.own m)) m (.ins A.cMarkers dm [])) H2) (h1 : upd (upd H1 dm (.own m)) m (.ins A.cMarkers dm []) pl = none)
  (h2 : upd (upd H1 dm (.own m)) m (.ins A.cMarkers dm []) cl = none) (h3 : pl ≠ cl) : NewM H1 H2 A m pl cl :=
 ⟨tab, .made nm ndm kp, nm, (upd_none (upd_none h1).2).2, (upd_none (upd_none h2).2).2, (upd_none h1).1.symm, (upd_none h2).1.symm, h3⟩
theorem tbl_ne {H : Hp} {g C d : Addr} {f : List (Str × V)} (h : TblOk A H) (hg : H g = some (.ins C d f)) : g ≠ A.pT := by
 rcases h with h | ⟨c, h, _⟩
 ·exact ne_of hg h fun z => nomatch z
 ·exact ne_of hg h fun z => nomatch z
theorem TblOk.keep1 {H H' : Hp} {g C d : Addr} {f : List (Str × V)} (h : TblOk A H) (e : Kp [g] H H') (hg : H g = some (.ins C d f)) : TblOk A H' :=
 h.keep e (by simpa using (tbl_ne h hg).symm) (fun b hb φ q => by
  have : b = g := by simpa using hb
  subst this
  rw [hg] at q
  cases q)
theorem game_fin {H6 H7 : Hp} {g gr w1 dg m pl cl ps : Addr} {rs : List Addr} {b : Board} {fs6 : List (Str × V)} (fs8 : List (Str × V)) (hg6 : H6 g = some (.ins A.cGame dg fs6)) (hG6 : GridA A H6 gr w1 rs b) (tb6 : TblOk A H6) (NM : NewM H6 H7 A m pl cl)
  (hx : ∀ x ∈ gr :: w1 :: rs, x ≠ g ∧ x ≠ A.pT) (nps : upd H7 g (.ins A.cGame dg fs8) ps = none) :
  GameA A (upd (upd (upd H7 g (.ins A.cGame dg fs8)) ps (.lst [])) g (.ins A.cGame dg (gf gr m ps))) ⟨g, gr, w1, rs, ⟨m, pl, cl⟩, ps, []⟩ ⟨b, Vbsgae.empty, []⟩ ∧
   Kp [g] H6 (upd (upd (upd H7 g (.ins A.cGame dg fs8)) ps (.lst [])) g (.ins A.cGame dg (gf gr m ps))) ∧ H6 ps = none ∧ g ≠ ps := by
 have f7 := NM.kp
 have hg7 := f7.at_ hg6
 have p8 : Kp [g] H7 (upd H7 g (.ins A.cGame dg fs8)) := .put (.head _) hg7 fun _ z => nomatch z
 have ngps : g ≠ ps := ne_some ⟨_, uS⟩ nps
 have hg9 : upd (upd H7 g (.ins A.cGame dg fs8)) ps (.lst []) g = some (.ins A.cGame dg fs8) := (uN ngps).trans uS
 have p9 : Kp [g] H7 (upd (upd H7 g (.ins A.cGame dg fs8)) ps (.lst [])) := p8.trans (.new nps)
 have p10 : Kp [g] H7 (upd (upd (upd H7 g (.ins A.cGame dg fs8)) ps (.lst [])) g (.ins A.cGame dg (gf gr m ps))) := p9.trans (.put (.head _) hg9 fun _ z => nomatch z)
 have e10 : Kp [g] H6 (upd (upd (upd H7 g (.ins A.cGame dg fs8)) ps (.lst [])) g (.ins A.cGame dg (gf gr m ps))) := f7.any.trans p10
 have n7 : H7 ps = none := p8.dom _ nps
 have n6 : H6 ps = none := f7.dom _ n7
 have gne : ∀ y, H6 y = none → g ≠ y := fun y h => ne_some ⟨_, hg6⟩ h
 have tne : ∀ y, H6 y = none → A.pT ≠ y := fun y h => ne_some tb6.ats h
 have xne : ∀ y, H6 y = none → ∀ x ∈ gr :: w1 :: rs, x ≠ y := fun y h x hx => ne_some (hG6.ats x hx) h
 have mps : ∀ y ∈ MA.fp ⟨m, pl, cl⟩, ps ≠ y := fun y hy => (ne_some (NM.tab.ats y hy) n7).symm
 have ngr : ∀ x ∈ gr :: w1 :: rs, x ∉ [g] := fun x h => by simpa using (hx x h).1
 refine ⟨game_new (dg := dg) uS (hG6.keep e10 (ngr _ (.head _)) (ngr _ (.tail _ (.head _))) fun r hr => ngr r (.tail _ (.tail _ hr))) (NM.tab.keep p10 fun y hy => ?_) ((uN ngps.symm).trans uS) (tb6.keep1 e10 hg6) ?_ fun x h => ?_, e10, n6, ngps⟩
 ·have : y = m ∨ y = pl ∨ y = cl := by simpa [MA.fp] using hy
  rcases this with rfl | rfl | rfl
  ·simpa using (gne _ NM.n1).symm
  ·simpa using (gne _ NM.n2).symm
  ·simpa using (gne _ NM.n3).symm
 ·exact nd6 ngps (tbl_ne tb6 hg6) (gne _ NM.n1) (gne _ NM.n2) (gne _ NM.n3) (tne _ n6).symm (mps _ (.head _)) (mps _ (.tail _ (.head _))) (mps _ (.tail _ (.tail _ (.head _)))) (tne _ NM.n1) (tne _ NM.n2) (tne _ NM.n3) NM.d1 NM.d2 NM.d3
 ·intro q
  have : x = g ∨ x = ps ∨ x = A.pT ∨ x = m ∨ x = pl ∨ x = cl := by simpa using q
  rcases this with e | e | e | e | e | e
  ·exact (hx x h).1 e
  ·exact xne _ n6 x h e
  ·exact (hx x h).2 e
  ·exact xne _ NM.n1 x h e
  ·exact xne _ NM.n2 x h e
  ·exact xne _ NM.n3 x h e
theorem mut_app (G : GA) (y : MA) : GA.mut A { G with past := G.past ++ [y] } = G.mut A ++ y.fp := by
 simp [GA.mut, List.flatMap_append]
theorem okzp (T : Txt K mg A) : FnOk P w K mg base CX0 3 A.azp A.dzp ["self"] (spzp A) := by
 have Gza := okza P w base T
 have Gzj := okzj P w base T
 refine T.fzp.ok (k := 2) sczp (fun vs H Q E h => ?_) (fun cdv Ar outer s H vs Q E hr h => ?_)
 ·obtain ⟨_, _, rfl, _⟩ := h; rfl
 obtain ⟨g, dg, rfl, hg, htb, k⟩ := h
 refine ⟨_, (pQ (ps_fld (pv 0) (pe_make T.mkGrid Gza (hr.mono (by decide : 2 ≤ 2)) rfl T.gGrid T.bza .nil pass0 (pA (pe_lst (pA (pe_lst (pA (pe_tup (pA (pe_glob (v := .int (100)) rfl T.gxj ⟨_, rfl⟩) (pA (pe_tup (pA (pe_glob (v := .int (98)) rfl T.gxf ⟨_, rfl⟩) pZ)) pZ))) pZ)) pZ)) pZ)) rfl)
  (pQ (ps_fld (pv 0) (pe_make0 T.mkMarkers Gzj (hr.mono (by decide : 2 ≤ 2)) rfl T.gMarkers T.bzj .nil pass0) rfl)
  (pI (ps_fld (pv 0) (pe_lst pZ) rfl)))), ?_⟩
 refine ⟨sz, fun t1 n1 => ⟨sz, fun t2 n2 => ⟨sz, fun r n3 => ⟨sz, fun w1 n4 => ?_⟩⟩⟩⟩
 have f1 : Kp [] H (upd H t1 (.tup [.int 98])) := .new n1
 have f2 := f1.trans (.new (p := t2) (o := .tup [.int 100, .ref t1]) n2)
 have f3 := f2.trans (.new (p := r) (o := .lst [.ref t2]) n3)
 have f4 := f3.trans (.new (p := w1) (o := .lst [.ref r]) n4)
 have hrow : RowA (upd (upd (upd (upd H t1 (.tup [.int 98])) t2 (.tup [.int 100, .ref t1])) r (.lst [.ref t2])) w1 (.lst [.ref r])) r [⟨100, [98]⟩] := by
  have g1 : Kp [] (upd (upd H t1 (.tup [.int 98])) t2 (.tup [.int 100, .ref t1])) (upd (upd (upd (upd H t1 (.tup [.int 98])) t2 (.tup [.int 100, .ref t1])) r (.lst [.ref t2])) w1 (.lst [.ref r])) := (Kp.new n3).trans (.new n4)
  have g2 : Kp [] (upd H t1 (.tup [.int 98])) (upd (upd (upd (upd H t1 (.tup [.int 98])) t2 (.tup [.int 100, .ref t1])) r (.lst [.ref t2])) w1 (.lst [.ref r])) := (Kp.new n2).trans g1
  have g3 : Kp [] (upd (upd (upd H t1 (.tup [.int 98])) t2 (.tup [.int 100, .ref t1])) r (.lst [.ref t2])) (upd (upd (upd (upd H t1 (.tup [.int 98])) t2 (.tup [.int 100, .ref t1])) r (.lst [.ref t2])) w1 (.lst [.ref r])) := .new n4
  exact ⟨[t2], g3.at_ uS, .cons ⟨t1, g1.at_ uS, g2.at_ uS⟩ .nil⟩
 have hw1 : upd (upd (upd (upd H t1 (.tup [.int 98])) t2 (.tup [.int 100, .ref t1])) r (.lst [.ref t2])) w1 (.lst [.ref r]) w1 = some (.lst [.ref r]) := uS
 have nr : H r = none := f2.dom _ n3
 have nw : H w1 = none := f3.dom _ n4
 generalize upd (upd (upd (upd H t1 (.tup [.int 98])) t2 (.tup [.int 100, .ref t1])) r (.lst [.ref t2])) w1 (.lst [.ref r]) = H4 at f4 hrow hw1
 intro gr dgr ngr ndgr _
 refine ⟨gr, dgr, w1, rfl, uS, fun H5 hgr kp5 => ⟨rfl, ?_⟩⟩
 have f5 : Kp [] H4 H5 := .made ngr ndgr kp5
 have f05 := f4.trans f5
 have hgr0 : H gr = none := f4.dom _ ngr
 refine ⟨_, rfl, g, A.cGame, dg, _, rfl, f05.at_ hg, T.clGame, T.nGg, fw, ?_⟩
 have e6 : Kp [g] H (upd H5 g (.ins A.cGame dg [("grid", .ref gr)])) := f05.any.trans (.put (.head _) (f05.at_ hg) fun _ z => nomatch z)
 have p6 : Kp [g] H5 (upd H5 g (.ins A.cGame dg [("grid", .ref gr)])) := .put (.head _) (f05.at_ hg) fun _ z => nomatch z
 have hg6 : upd H5 g (.ins A.cGame dg [("grid", .ref gr)]) g = some (.ins A.cGame dg [("grid", .ref gr)]) := uS
 have ngg : gr ≠ g := (ne_some ⟨_, hg⟩ hgr0).symm
 have nwg : w1 ≠ g := (ne_some ⟨_, hg⟩ nw).symm
 have nrg : r ≠ g := (ne_some ⟨_, hg⟩ nr).symm
 have hG6 : GridA A (upd H5 g (.ins A.cGame dg [("grid", .ref gr)])) gr w1 [r] [[⟨100, [98]⟩]] :=
  GridA.keep ⟨⟨dgr, hgr⟩, ⟨f5.at_ hw1, .cons (hrow.keep0 f5) .nil⟩⟩ p6 (by simpa using ngg) (by simpa using nwg) (fun x hx => by
   have : x = r := by simpa using hx
   subst this
   simpa using nrg)
 have tb6 := htb.keep1 e6 hg
 have hx6 : ∀ x ∈ gr :: w1 :: [r], x ≠ g ∧ x ≠ A.pT := fun x hx => by
  have : x = gr ∨ x = w1 ∨ x = r := by simpa using hx
  rcases this with rfl | rfl | rfl
  ·exact ⟨ngg, (ne_some htb.ats hgr0).symm⟩
  ·exact ⟨nwg, (ne_some htb.ats nw).symm⟩
  ·exact ⟨nrg, (ne_some htb.ats nr).symm⟩
 show tSeq _ _ _ _ (upd H5 g (.ins A.cGame dg [("grid", .ref gr)]))
 generalize upd H5 g (.ins A.cGame dg [("grid", .ref gr)]) = H6 at e6 hg6 hG6 tb6
 intro m dm nm ndm _
 refine ⟨m, dm, rfl, uS, fun H7 pl cl tab kp7 h1 h2 h3 => ⟨rfl, ?_⟩⟩
 have NM := newM nm ndm tab kp7 h1 h2 h3
 refine ⟨_, rfl, g, A.cGame, dg, _, rfl, NM.kp.at_ hg6, T.clGame, T.nGm, fw, sz, fun ps nps => ?_⟩
 obtain ⟨gm, kk, n6, ngps⟩ := game_fin [("grid", .ref gr), ("markers", .ref m)] hg6 hG6 tb6 NM hx6 nps
 refine ⟨_, rfl, g, A.cGame, dg, _, rfl, (uN ngps).trans uS, T.clGame, T.nGp, fw, ?_⟩
 exact k _ _ rfl gm (e6.trans kk)
theorem okzq (T : Txt K mg A) : FnOk P w K mg base CX0 3 A.azq A.dzq ["self", "grid"] (spzq A) := by
 have Gzj := okzj P w base T
 refine T.fzq.ok (k := 2) sczq (fun vs H Q E h => ?_) (fun cdv Ar outer s H vs Q E hr h => ?_)
 ·obtain ⟨_, _, _, _, _, _, rfl, _⟩ := h; rfl
 obtain ⟨G, s, gr, w1, rs, b, rfl, hA, hG, hdis, k⟩ := h
 refine ⟨_, (pQ (ps_fld (pv 0) (pv 1) rfl)
  (pQ (ps_fld (pv 0) (pe_make0 T.mkMarkers Gzj (hr.mono (by decide : 2 ≤ 2)) rfl T.gMarkers T.bzj .nil pass0) rfl)
  (pI (ps_fld (pv 0) (pe_lst pZ) rfl)))), ?_⟩
 have hins := hA.ins
 obtain ⟨dg, hg⟩ := hins
 have ng : ∀ x ∈ gr :: w1 :: rs, x ≠ G.g ∧ x ≠ A.pT := fun x hx => ⟨fun e => hdis x hx (by rw [e]; exact .head _), fun e => hdis x hx (by rw [e]; exact .tail _ (.tail _ (.head _)))⟩
 refine ⟨_, rfl, _, rfl, G.g, A.cGame, dg, _, rfl, hg, T.clGame, T.nGg, fw, ?_⟩
 have e6 : Kp [G.g] H (upd H G.g (.ins A.cGame dg (gf gr G.cur.m G.ps))) := .put (.head _) hg fun _ z => nomatch z
 have hg6 : upd H G.g (.ins A.cGame dg (gf gr G.cur.m G.ps)) G.g = some (.ins A.cGame dg (gf gr G.cur.m G.ps)) := uS
 have ngr : ∀ x ∈ gr :: w1 :: rs, x ∉ [G.g] := fun x h => by simpa using (ng x h).1
 have hG6 := hG.keep e6 (ngr _ (.head _)) (ngr _ (.tail _ (.head _))) fun r hr => ngr r (.tail _ (.tail _ hr))
 have tb6 := hA.tbl.keep1 e6 hg
 show tSeq _ _ _ _ (upd H G.g (.ins A.cGame dg (gf gr G.cur.m G.ps)))
 generalize upd H G.g (.ins A.cGame dg (gf gr G.cur.m G.ps)) = H6 at e6 hg6 hG6 tb6
 intro m dm nm ndm _
 refine ⟨m, dm, rfl, uS, fun H7 pl cl tab kp7 h1 h2 h3 => ⟨rfl, ?_⟩⟩
 have NM := newM nm ndm tab kp7 h1 h2 h3
 refine ⟨_, rfl, G.g, A.cGame, dg, _, rfl, NM.kp.at_ hg6, T.clGame, T.nGm, fw, sz, fun ps nps => ?_⟩
 obtain ⟨gm, kk, n6, ngps⟩ := game_fin (gf gr m G.ps) hg6 hG6 tb6 NM ng nps
 refine ⟨_, rfl, G.g, A.cGame, dg, _, rfl, (uN ngps).trans uS, T.clGame, T.nGp, fw, ?_⟩
 refine k _ ⟨m, pl, cl⟩ ps gm (e6.trans kk) fun z hz => ?_
 have : z = ps ∨ z = m ∨ z = pl ∨ z = cl := by simpa [MA.fp] using hz
 rcases this with rfl | rfl | rfl | rfl
 ·exact e6.dom _ n6
 ·exact e6.dom _ NM.n1
 ·exact e6.dom _ NM.n2
 ·exact e6.dom _ NM.n3
theorem okzr (T : Txt K mg A) : FnOk P w K mg base CX0 4 A.azr A.dzr ["self"] (spzr A) := by
 have Gzk := okzk P w base T
 refine T.fzr.ok (k := 3) sczr (fun vs H Q E h => ?_) (fun cdv Ar outer s H vs Q E hr h => ?_)
 ·obtain ⟨_, _, rfl, _⟩ := h; rfl
 obtain ⟨G, s, rfl, hA, hl, k⟩ := h
 refine ⟨_, (pQ (ps_expr (pe_bm PySem.F.plainAttrs_list PySem.F.slot_list_append PySem.F.type_list_append mt_append (pe_fld (pv 0) rfl) (pA (pe_meth0 (pe_fld (pv 0) rfl) T.clMarkers T.mzk Gzk (hr.mono (by decide : 3 ≤ 3)) T.bzk .nil pass0) pZ)))
  (pI (ps_if (pt_cmpR op_gt (pe_callB call_len_seq (by rfl) T.nlen bt_len (pA (pe_fld (pv 0) rfl) pZ)) (pe_glob (v := .int (50)) rfl T.gxk ⟨_, rfl⟩) (nomark _)) (pI (ps_expr (pe_bm PySem.F.plainAttrs_list PySem.F.slot_list_pop PySem.F.type_list_pop mt_popAt (pe_fld (pv 0) rfl) (pA pe_int pZ)))) pss_nil))), ?_⟩
 have hins := hA.ins
 obtain ⟨dg, hg⟩ := hins
 have hcur := hA.cur
 obtain ⟨kvs, ⟨⟨dm, hm⟩, _⟩, _⟩ := hcur
 refine ⟨_, rfl, G.g, A.cGame, dg, _, _, rfl, hg, T.clGame, T.nGp, rfl, .inl ⟨rfl, _, SqL.of hA.pst⟩, ?_⟩
 refine ⟨_, rfl, G.g, A.cGame, dg, _, _, rfl, hg, T.clGame, T.nGm, rfl, G.cur.m, dm, _, rfl, hm, rfl, G.cur, s.table, rfl, hA.cur, fun H1 y ty e1 ny nd => ?_⟩
 have hA1 := hA.keep0 e1
 have hpl : G.past.length = s.past.length := by have := plen hA.past; rw [List.length_reverse] at this; exact this
 have hps1 := hA1.pst
 have hg1 := e1.at_ hg
 refine ⟨G.ps, _, _, rfl, rfl, hps1, szlt (by rw [List.length_map]; omega), ?_⟩
 have hyn : ∀ z ∈ y.fp, z ∉ G.mut A ++ G.fix := fun z hz q => by
  obtain ⟨o, ho⟩ := hA.ats z q
  rw [ny z hz] at ho
  cases ho
 have nps : ∀ z ∈ G.mut A, z ≠ G.ps → z ∉ [G.ps] := fun z _ h => by simpa using h
 have gps : G.g ≠ G.ps := ne_of hg hA.pst fun z => nomatch z
 have fpps : ∀ x ∈ G.cur :: G.past, ∀ z ∈ x.fp, z ∉ [G.ps] := fun x hx z hz => by
  have h2 : G.ps ∉ A.pT :: (G.cur :: G.past).flatMap MA.fp := by
   have := hA.nd
   unfold GA.mut at this
   exact (List.nodup_cons.mp (List.nodup_cons.mp this).2).1
  have : z ∈ (G.cur :: G.past).flatMap MA.fp := List.mem_flatMap.mpr ⟨x, hx, hz⟩
  intro q
  have e : z = G.ps := by simpa using q
  exact h2 (.tail _ (by rw [← e]; exact this))
 have yps : ∀ z ∈ y.fp, z ∉ [G.ps] := fun z hz q => by
  have e : z = G.ps := by simpa using q
  exact hyn z hz (List.mem_append_left _ (by rw [e]; exact .tail _ (.head _)))
 have fixps : ∀ z ∈ G.fix, z ∉ [G.ps] := fun z hz q => by
  have e : z = G.ps := by simpa using q
  exact hA.dis z hz (by rw [e]; exact .tail _ (.head _))
 have tps : A.pT ∉ [G.ps] := fun q => by
  have e : A.pT = G.ps := by simpa using q
  have := hA.nd
  unfold GA.mut at this
  exact (List.nodup_cons.mp (List.nodup_cons.mp this).2).1 (by rw [← e]; exact .head _)
 have whole : ∀ (H2 : Hp) (past : List MA), Kp [G.ps] H1 H2 → H2 G.ps = some (.lst (past.map fun x => V.ref x.m)) → Paired (TabA A H2) past ((s.table :: s.past).take 50).reverse → (GA.mut A { G with past := past }).Nodup → (∀ x ∈ GA.mut A { G with past := past }, x ∈ G.mut A ++ y.fp) → Q .non H2 := by
  intro H2 past e2 h1 h2 h3 h4
  refine k H2 past ⟨⟨dg, e2.kp _ _ hg1 (by simpa using gps)⟩, hA1.grid.keep e2 (fixps _ (.head _)) (fixps _ (.tail _ (.head _))) fun r hr => fixps r (.tail _ (.tail _ hr)), hA1.cur.keep e2 (fpps _ (.head _)), h1, h2, hA1.tbl.keep e2 tps (fun b hb φ q => ?_), h3, fun x hx q => ?_⟩ (e1.any.trans e2) fun x hx => ?_
  ·have : b = G.ps := by simpa using hb
   subst this
   rw [hps1] at q
   cases q
  ·rcases List.mem_append.mp (h4 x q) with h | h
   ·exact hA.dis x hx h
   ·exact hyn x h (List.mem_append_right _ hx)
  ·rcases List.mem_append.mp (h4 x hx) with h | h
   ·exact .inl h
   ·exact .inr (ny x h)
 have e2 : Kp [G.ps] H1 (upd H1 G.ps (.lst ((G.past.map fun x => V.ref x.m) ++ [.ref y.m]))) := .put (.head _) hps1 fun _ z => nomatch z
 have pp : Paired (TabA A (upd H1 G.ps (.lst ((G.past.map fun x => V.ref x.m) ++ [.ref y.m])))) (G.past ++ [y]) (s.past.reverse ++ [s.table]) :=
  papp (past_keep e2 hA1.past fun x hx => fpps x (.tail _ hx)) (.cons (ty.keep e2 yps) .nil)
 have ndn : (GA.mut A { G with past := G.past ++ [y] }).Nodup := by
  rw [mut_app, List.nodup_append]
  exact ⟨hA.nd, nd, fun a ha b hb e => hyn b hb (List.mem_append_left _ (by rw [← e]; exact ha))⟩
 refine ⟨_, rfl, G.g, A.cGame, dg, _, _, rfl, (uN gps).trans hg1, T.clGame, T.nGp, rfl, G.ps, _, rfl, .inl (SqL.of uS), _, _, rfl, rfl, _, rfl, ite2 (fun hq => ?_) (fun hq => ?_)⟩
 ·have hq' : (50 : Int) < (((G.past.map fun x : MA => V.ref x.m) ++ [V.ref y.m] : List V).length : Int) := dT hq
  rw [List.length_append, List.length_map, List.length_singleton] at hq'
  have h50 : s.past.length = 50 := by omega
  obtain ⟨p0, pr, hp0⟩ : ∃ p0 pr, G.past = p0 :: pr := by
   cases e : G.past with
   | nil => rw [e] at hpl; rw [h50] at hpl; cases hpl
   | cons a r => exact ⟨a, r, rfl⟩
  refine ⟨_, rfl, G.g, A.cGame, dg, _, _, rfl, (uN gps).trans hg1, T.clGame, T.nGp, rfl, .inl ⟨rfl, _, SqL.of uS⟩, ?_⟩
  refine ⟨G.ps, _, 0, 0, .ref p0.m, rfl, rfl, uS, by decide, by decide, ?_, ?_, ?_⟩
  ·rw [hp0]
   simp [seqIndex?]
   omega
  ·rw [hp0]
   rfl
  ·have e3 : Kp [G.ps] (upd H1 G.ps (.lst ((G.past.map fun x => V.ref x.m) ++ [.ref y.m]))) (upd (upd H1 G.ps (.lst ((G.past.map fun x => V.ref x.m) ++ [.ref y.m]))) G.ps (.lst (((G.past.map fun x : MA => V.ref x.m) ++ [V.ref y.m] : List V).eraseIdx 0))) := .put (.head _) uS fun _ z => nomatch z
   refine whole _ (pr ++ [y]) (e2.trans e3) ?_ ?_ ?_ ?_
   ·rw [uS, hp0]
    simp
   ·obtain ⟨t0, tr, ht0⟩ : ∃ t0 tr, s.past.reverse = t0 :: tr := by
     cases e : s.past.reverse with
     | nil =>
      have := congrArg List.length e
      rw [List.length_reverse, h50] at this
      cases this
     | cons a r => exact ⟨a, r, rfl⟩
    have e4 : ((s.table :: s.past).take 50).reverse = tr ++ [s.table] := by
     have e5 : s.past = tr.reverse ++ [t0] := by
      have := congrArg List.reverse ht0
      rw [List.reverse_reverse, List.reverse_cons] at this
      exact this
     have e6 : tr.length = 49 := by
      have := congrArg List.length ht0
      rw [List.length_reverse, h50, List.length_cons] at this
      omega
     rw [e5, ← List.cons_append, List.take_append_of_le_length (by rw [List.length_cons, List.length_reverse]; omega), List.take_of_length_le (by rw [List.length_cons, List.length_reverse]; omega)]
     simp
    rw [e4]
    rw [hp0, ht0] at pp
    have pp' : Paired (TabA A (upd H1 G.ps (.lst ((G.past.map fun x => V.ref x.m) ++ [.ref y.m])))) (pr ++ [y]) (tr ++ [s.table]) := by
     rw [hp0]
     cases pp with
     | cons _ r => exact r
    refine past_keep e3 pp' fun x hx z hz => ?_
    rcases List.mem_append.mp hx with hx | hx
    ·exact fpps x (.tail _ (by rw [hp0]; exact .tail _ hx)) z hz
    ·have : x = y := by simpa using hx
     subst this
     exact yps z hz
   ·refine List.Nodup.sublist ?_ ndn
    rw [hp0]
    show List.Sublist (G.g :: G.ps :: A.pT :: ((G.cur :: (pr ++ [y])).flatMap MA.fp)) (G.g :: G.ps :: A.pT :: ((G.cur :: (p0 :: pr ++ [y])).flatMap MA.fp))
    refine ((List.Sublist.cons₂ _ (.cons₂ _ (.cons₂ _ ?_))))
    rw [List.flatMap_cons, List.flatMap_cons, List.cons_append, List.flatMap_cons]
    exact List.Sublist.append (List.Sublist.refl _) (List.sublist_append_right _ _)
   ·intro x hx
    rw [← mut_app, hp0]
    unfold GA.mut at hx ⊢
    simp only [List.mem_cons, List.mem_flatMap] at hx ⊢
    rcases hx with h | h | h | ⟨z, hz, h⟩
    ·exact .inl h
    ·exact .inr (.inl h)
    ·exact .inr (.inr (.inl h))
    ·refine .inr (.inr (.inr ⟨z, ?_, h⟩))
     rcases hz with h | h
     ·exact .inl h
     ·exact .inr (.tail _ h)
 ·have hq' : ¬ (50 : Int) < (((G.past.map fun x : MA => V.ref x.m) ++ [V.ref y.m] : List V).length : Int) := dF hq
  rw [List.length_append, List.length_map, List.length_singleton] at hq'
  refine whole _ (G.past ++ [y]) e2 ?_ ?_ ndn ?_
  ·rw [uS, List.map_append]
   rfl
  ·rw [List.take_of_length_le (by rw [List.length_cons]; omega), List.reverse_cons]
   exact pp
  ·intro x hx
   rw [mut_app] at hx
   exact hx
theorem okzs (T : Txt K mg A) : FnOk P w K mg base CX0 1 A.azs A.dzs ["self"] (spzs A) := by
 refine T.fzs.ok (k := 0) sczs (fun vs H Q E h => ?_) (fun cdv Ar outer s H vs Q E hr h => ?_)
 ·obtain ⟨_, _, _, _, rfl, _⟩ := h; rfl
 obtain ⟨G, s, t, r, rfl, hA, hpast, k⟩ := h
 refine ⟨_, (pI (ps_fld (pv 0) (pe_bm0 PySem.F.plainAttrs_list PySem.F.slot_list_pop PySem.F.type_list_pop mt_pop (pe_fld (pv 0) rfl)) rfl)), ?_⟩
 have hins := hA.ins
 obtain ⟨dg, hg⟩ := hins
 have hp := hA.past
 rw [hpast, List.reverse_cons] at hp
 obtain ⟨l0, y, hl0, hp0, hy⟩ := psnoc hp
 have hps := hA.pst
 rw [hl0, List.map_append] at hps
 have gps : G.g ≠ G.ps := ne_of hg hA.pst fun z => nomatch z
 refine ⟨_, rfl, G.g, A.cGame, dg, _, _, rfl, hg, T.clGame, T.nGp, rfl, .inl ⟨rfl, _, SqL.of hps⟩, G.ps, _, .ref y.m, rfl, rfl, hps, ?_, _, rfl, G.g, A.cGame, dg, _, rfl, (uN gps).trans hg, T.clGame, T.nGm, fw, ?_⟩
 ·simp
 have hnd := hA.nd
 unfold GA.mut at hnd
 obtain ⟨hn1, hnd⟩ := List.nodup_cons.mp hnd
 obtain ⟨hn2, hnd⟩ := List.nodup_cons.mp hnd
 obtain ⟨hn3, hnd⟩ := List.nodup_cons.mp hnd
 have e1 : Kp [G.g, G.ps] H (upd H G.ps (.lst ((l0.map fun x => V.ref x.m) ++ [V.ref y.m]).dropLast)) := .put (.tail _ (.head _)) hA.pst fun _ z => nomatch z
 have e2 : Kp [G.g, G.ps] H (upd (upd H G.ps (.lst ((l0.map fun x => V.ref x.m) ++ [V.ref y.m]).dropLast)) G.g (.ins A.cGame dg (gf G.gr y.m G.ps))) := e1.trans (.put (.head _) ((uN gps).trans hg) fun _ z => nomatch z)
 have hfp : ∀ x ∈ G.cur :: G.past, ∀ z ∈ x.fp, z ∉ [G.g, G.ps] := fun x hx z hz q => by
  have hz' : z ∈ (G.cur :: G.past).flatMap MA.fp := List.mem_flatMap.mpr ⟨x, hx, hz⟩
  have : z = G.g ∨ z = G.ps := by simpa using q
  rcases this with e | e
  ·exact hn1 (.tail _ (.tail _ (by rw [← e]; exact hz')))
  ·exact hn2 (.tail _ (by rw [← e]; exact hz'))
 have hfix : ∀ z ∈ G.fix, z ∉ [G.g, G.ps] := fun z hz q => by
  have : z = G.g ∨ z = G.ps := by simpa using q
  rcases this with e | e
  ·exact hA.dis z hz (by rw [e]; exact .head _)
  ·exact hA.dis z hz (by rw [e]; exact .tail _ (.head _))
 have hsub : ∀ x ∈ y :: l0, x ∈ G.cur :: G.past := fun x hx => by
  rw [hl0]
  rcases List.mem_cons.mp hx with rfl | hx
  ·simp
  ·simp [hx]
 have hmut : ∀ x ∈ GA.mut A { G with cur := y, past := l0 }, x ∈ G.mut A := fun x hx => by
  unfold GA.mut at hx ⊢
  simp only [List.mem_cons (a := x), List.mem_flatMap] at hx ⊢
  rcases hx with h | h | h | ⟨z, hz, h⟩
  ·exact .inl h
  ·exact .inr (.inl h)
  ·exact .inr (.inr (.inl h))
  ·exact .inr (.inr (.inr ⟨z, hsub z hz, h⟩))
 refine k _ y l0 ⟨⟨dg, uS⟩, hA.grid.keep e2 (hfix _ (.head _)) (hfix _ (.tail _ (.head _))) fun r hr => hfix r (.tail _ (.tail _ hr)), hy.keep e2 (hfp _ (hsub _ (.head _))), ?_, past_keep e2 hp0 fun x hx => hfp x (hsub x (.tail _ hx)), hA.tbl.keep e2 ?_ ?_, ?_, fun x hx q => hA.dis x hx (hmut x q)⟩ e2 hmut
 ·show upd _ _ _ G.ps = _
  rw [uN gps.symm, uS]
  exact congrArg (fun z => some (HO.lst z)) (List.dropLast_concat (l₁ := l0.map fun x => V.ref x.m) (b := V.ref y.m))
 ·intro q
  have : A.pT = G.g ∨ A.pT = G.ps := by simpa using q
  rcases this with e | e
  ·exact hn1 (.tail _ (by rw [← e]; exact .head _))
  ·exact hn2 (by rw [← e]; exact .head _)
 ·intro b hb φ q
  have : b = G.g ∨ b = G.ps := by simpa using hb
  rcases this with rfl | rfl
  ·rw [hg] at q; cases q
  ·rw [hA.pst] at q; cases q
 ·unfold GA.mut
  have hs : (List.Nodup ((y :: l0).flatMap MA.fp)) := by
   rw [hl0, List.flatMap_cons, List.flatMap_append] at hnd
   have h1 := (List.nodup_append.mp hnd).2.1
   rw [List.flatMap_cons]
   refine (List.perm_append_comm.nodup_iff).mp ?_
   simpa using h1
  have hin : ∀ z ∈ (y :: l0).flatMap MA.fp, z ∈ (G.cur :: G.past).flatMap MA.fp := fun z hz => by
   obtain ⟨x, hx, h⟩ := List.mem_flatMap.mp hz
   exact List.mem_flatMap.mpr ⟨x, hsub x hx, h⟩
  refine List.nodup_cons.mpr ⟨fun q => hn1 ?_, List.nodup_cons.mpr ⟨fun q => hn2 ?_, List.nodup_cons.mpr ⟨fun q => hn3 (hin _ q), hs⟩⟩⟩
  ·rcases List.mem_cons.mp q with h | q
   ·exact absurd h gps
   rcases List.mem_cons.mp q with h | q
   ·rw [h]; exact .tail _ (.head _)
   ·exact .tail _ (.tail _ (hin _ q))
  ·rcases List.mem_cons.mp q with h | q
   ·rw [h]; exact .head _
   ·exact .tail _ (hin _ q)
end
end Pb
namespace Pb
open PySem PySem.Spec PyProof.Rows L2 Vb
open Vbsgae (Cell Board Marker Table State)
section
variable (P : Program) (w : World) {K : W.Frag} {mg : Str → Option Value} (base : Heap) {A : Adr}
theorem okzt (T : Txt K mg A) : FnOk P w K mg base CX0 1 A.azt A.dzt ["self"] (spzt A) := by
 refine T.fzt.ok (k := 0) sczt (fun vs H Q E h => ?_) (fun cdv Ar outer s H vs Q E hr h => ?_)
 ·obtain ⟨_, _, rfl, _⟩ := h; rfl
 obtain ⟨q, dx, rfl, hq, k⟩ := h
 refine ⟨_, (pQ (ps_fld (pv 0) (pe_lst pZ) rfl)
  (pI (ps_fld (pv 0) pe_int rfl))), ?_⟩
 refine ⟨sz, fun w1 hw => ?_⟩
 have n1 : q ≠ w1 := ne_of_none hq hw
 refine ⟨_, rfl, q, A.cReading, dx, _, rfl, (uN n1).trans hq, T.clReading, T.nRr, fw, _, rfl, q, A.cReading, dx, _, rfl, uS, T.clReading, T.nRw, fw, ?_⟩
 refine k _ w1 uS ?_ hw ?_
 ·rw [uN n1.symm, uN n1.symm, uS]
 ·exact ((Kp.new hw).trans (.put (.head _) ((uN n1).trans hq) fun _ z => nomatch z)).trans (.put (.head _) uS fun _ z => nomatch z)
theorem okzu (T : Txt K mg A) : FnOk P w K mg base CX0 1 A.azu A.dzu ["signs", "mark"] (spzu K) := by
 refine T.fzu.ok (k := 0) sczu (fun vs H Q E h => ?_) (fun cdv Ar outer s H vs Q E hr h => ?_)
 ·obtain ⟨_, _, _, rfl, _⟩ := h; rfl
 obtain ⟨l, mk, xs, rfl, hl, hlen, k⟩ := h
 refine ⟨_, (pQ (ps_set (i := 2) sczu.nd rfl (Or.inl rfl) (pe_lst (pA (pe_lst pZ) pZ)))
  (pQ (ps_for PassesOwn.never rfl (pi_list (pv 0)) (pg_name (i := 3) sczu.nd rfl (Or.inl rfl)) (pI (ps_if (pt_cmpR op_eq (pv 3) (pv 1) (nomark _)) (pI (ps_expr (pe_bm PySem.F.plainAttrs_list PySem.F.slot_list_append PySem.F.type_list_append mt_append (pv 2) (pA (pe_lst pZ) pZ)))) (pI (ps_expr (pe_bm PySem.F.plainAttrs_list PySem.F.slot_list_append PySem.F.type_list_append mt_append (pe_ix ix_list (pv 2) (pe_un un_neg pe_int) (fun _ _ => rfl)) (pA (pv 3) pZ)))))))
  (pI (pY (pv 2))))), ?_⟩
 refine ⟨sz, fun a0 h0 => ⟨sz, fun p hp => ?_⟩⟩
 have e0 : Kp [] H (upd (upd H a0 (.lst [])) p (.lst [.ref a0])) := (Kp.new h0).trans (.new hp)
 have npa : p ≠ a0 := by intro z; subst z; rw [uS] at hp; cases hp
 have hpH : H p = none := (upd_none hp).2
 refine ⟨_, rfl, l, rfl, ⟨_, e0.seq0 hl⟩, for_list (xs := nVs xs) (fun i σ H1 => ∃ (as : List Addr) (v : Option V), σ = [some (.ref l), some (nV mk), some (.ref p), v] ∧ H1 p = some (.lst (as.map V.ref)) ∧ Paired (fun a xs => H1 a = some (.lst (nVs xs))) as (Vbsgae.parted mk (xs.take i)) ∧ as.Nodup ∧ (∀ a ∈ as, H a = none) ∧ Kp [] H H1) ?_ ?_ ?_ ?_⟩
 ·refine ⟨[a0], none, rfl, uS, .cons ((uN npa.symm).trans uS) .nil, by simp, fun a ha => ?_, e0⟩
  have : a = a0 := by simpa using ha
  rw [this]
  exact h0
 ·rintro i σ H1 - ⟨as, v, rfl, h1, h2, h3, h4, e1⟩
  exact e1.seq0 hl
 ·rintro i x σ H1 hx ⟨as, v, rfl, h1, h2, h3, h4, e1⟩
  obtain ⟨c, hc, rfl⟩ := n_at hx
  have hi : i < xs.length := (List.getElem?_eq_some_iff.mp hc).1
  have hal : as.length ≤ 5001 := by
   have := plen h2
   have := parted_len mk (xs.take i)
   rw [List.length_take] at this
   omega
  have ep := parted_snoc mk c (xs.take i)
  rw [← take_snoc hc] at ep
  refine ⟨_, rfl, _, rfl, rfl, _, rfl, ite2 (fun hq => ?_) (fun hq => ?_)⟩
  ·have hq' : c = mk := dN.mp hq
   rw [if_pos hq'] at ep
   refine ⟨_, rfl, .inl ⟨rfl, _, SqL.of h1⟩, sz, fun n hn => ?_⟩
   have npn : p ≠ n := ne_of_none h1 hn
   have hnH : H n = none := e1.dom _ hn
   have h1' := (uN (o := .lst []) npn).trans h1
   have e2 : Kp [p] H1 (upd (upd H1 n (.lst [])) p (.lst (as.map V.ref ++ [.ref n]))) := (Kp.new hn).trans (.put (.head _) h1' fun _ z => nomatch z)
   have npas := lla_ne h1 h2
   refine ⟨p, _, _, rfl, rfl, h1', szlt (by rw [List.length_map]; omega), as ++ [n], _, rfl, ?_, ?_, ?_, ?_, Kp.step1 e1 e2 hpH⟩
   ·rw [uS, List.map_append]
    rfl
   ·rw [ep]
    refine papp (lla_keep h2 e2 fun a ha q => ?_) (.cons ?_ .nil)
    ·have : a = p := by simpa using q
     rw [this] at ha
     exact npas ha
    ·rw [uN npn.symm, uS]
     rfl
   ·rw [List.nodup_append]
    refine ⟨h3, by simp, fun a ha b hb e => ?_⟩
    have : b = n := by simpa using hb
    subst this
    subst e
    obtain ⟨j, hj⟩ := List.getElem?_of_mem ha
    obtain ⟨y, hy⟩ : ∃ y, (Vbsgae.parted mk (xs.take i))[j]? = some y := ⟨_, List.getElem?_eq_getElem (by have := plen h2; have := (List.getElem?_eq_some_iff.mp hj).1; omega)⟩
    obtain ⟨a', q1, q2⟩ := pget h2 hy
    rw [hj] at q1
    cases q1
    rw [hn] at q2
    cases q2
   ·intro a ha
    rcases List.mem_append.mp ha with ha | ha
    ·exact h4 a ha
    ·have : a = n := by simpa using ha
     rw [this]
     exact hnH
  ·have hq' : ¬ c = mk := fun e => hq (dN.mpr e)
   rw [if_neg hq'] at ep
   have npas := lla_ne h1 h2
   have el := last_split (parted_ne mk (xs.take i))
   rw [el] at h2
   obtain ⟨as0, z, rfl, h5, h6⟩ := psnoc h2
   have hlast : ((Vbsgae.parted mk (xs.take i)).getLastD []).length ≤ 5000 := by
    have hm : (Vbsgae.parted mk (xs.take i)).getLastD [] ∈ Vbsgae.parted mk (xs.take i) := by
     have : (Vbsgae.parted mk (xs.take i)).getLastD [] ∈ (Vbsgae.parted mk (xs.take i)).dropLast ++ [(Vbsgae.parted mk (xs.take i)).getLastD []] := by simp
     rw [← el] at this
     exact this
    have := (parted_mem mk _ _ hm).2
    rw [List.length_take] at this
    omega
   have hz : z ∉ as0 := fun q => by
    rw [List.nodup_append] at h3
    exact h3.2.2 z q z (by simp) rfl
   have npz : p ≠ z := fun q => npas (by rw [q]; simp)
   refine ⟨_, rfl, _, rfl, p, _, _, V.ref z, rfl, rfl, SqL.of h1, (by rw [List.map_append]; exact atI_last _ _), .inl ⟨rfl, _, SqL.of h6⟩, _, rfl, z, _, _, rfl, rfl, h6, szlt (by rw [List.length_map]; omega), as0 ++ [z], _, rfl, (uN npz).trans h1, ?_, h3, h4, ?_⟩
   ·rw [ep]
    have e2 : Kp [z] H1 (upd H1 z (.lst (nVs ((Vbsgae.parted mk (xs.take i)).getLastD []) ++ [nV c]))) := .put (.head _) h6 fun _ z => nomatch z
    refine papp (lla_keep h5 e2 fun a ha q => ?_) (.cons ?_ .nil)
    ·have : a = z := by simpa using q
     rw [this] at ha
     exact hz ha
    ·show upd _ z _ z = _
     rw [uS, nV_app]
     rfl
   ·exact e1.put_new (h4 z (by simp))
 ·rintro σ H1 ⟨as, v, rfl, h1, h2, h3, h4, e1⟩
  have : xs.take (nVs xs).length = xs := by rw [List.length_map]; exact List.take_length
  rw [this] at h2
  exact ⟨_, rfl, k _ p ⟨as, h1, h2, hpH, h4⟩ e1⟩
theorem okzv (T : Txt K mg A) : FnOk P w K mg base CX0 2 A.azv A.dzv ["text"] (spzv K) := by
 have Gzu := okzu P w base T
 refine T.fzv.ok (k := 1) sczv (fun vs H Q E h => ?_) (fun cdv Ar outer s H vs Q E hr h => ?_)
 ·obtain ⟨_, _, rfl, _⟩ := h; rfl
 obtain ⟨l, xs, rfl, hl, hlen, k⟩ := h
 refine ⟨_, (pQ (ps_set (i := 1) sczv.nd rfl (Or.inl rfl) (pe_call Gzu (hr.mono (by decide : 1 ≤ 1)) rfl T.gzu T.fzu.kp T.bzu .nil pass0 (pA (pv 0) (pA (pe_glob (v := .int (10)) rfl T.gxl ⟨_, rfl⟩) pZ))))
  (pQ (ps_if (pt_not (pt_truth (pe_ix ix_list (pv 1) (pe_un un_neg pe_int) (fun _ _ => rfl)) (fun _ => rfl))) (pI (ps_expr (pe_bm0 PySem.F.plainAttrs_list PySem.F.slot_list_pop PySem.F.type_list_pop mt_pop (pv 1)))) pss_nil)
  (pI (pY (pv 1))))), ?_⟩
 refine ⟨_, rfl, l, 10, xs, rfl, hl, hlen, fun H1 p hL e1 => ?_⟩
 obtain ⟨as, hp, pr, hpH, has⟩ := hL
 have el := last_split (parted_ne 10 xs)
 have npas := lla_ne hp pr
 have pr0 := pr
 rw [el] at pr
 obtain ⟨as0, z, rfl, h5, h6⟩ := psnoc pr
 rw [linesOf_eq] at k
 refine ⟨_, rfl, _, rfl, p, _, _, V.ref z, rfl, rfl, SqL.of hp, (by rw [List.map_append]; exact atI_last _ _), _, .inl ⟨_, SqL.of h6, rfl⟩, ?_⟩
 rw [isNe]
 dsimp only
 rw [Bool.not_not]
 refine ite2 (fun hq => ?_) (fun hq => ?_)
 ·rw [if_pos hq] at k
  rw [List.map_append] at hp
  refine ⟨_, rfl, .inl ⟨rfl, _, SqL.of hp⟩, p, _, .ref z, rfl, rfl, hp, by simp, _, rfl, ?_⟩
  have e2 : Kp [p] H1 (upd H1 p (.lst (as0.map V.ref ++ [z].map V.ref).dropLast)) := .put (.head _) hp fun _ z => nomatch z
  refine k _ p ⟨as0, ?_, lla_keep h5 e2 (fun a ha q => ?_), hpH, fun a ha => has a (List.mem_append_left _ ha)⟩ (Kp.step1 e1 e2 hpH)
  ·rw [uS]
   exact congrArg (fun z => some (HO.lst z)) (List.dropLast_concat (l₁ := as0.map V.ref) (b := V.ref z))
  ·have : a = p := by simpa using q
   rw [this] at ha
   exact npas (List.mem_append_left _ ha)
 ·rw [if_neg hq] at k
  exact ⟨_, rfl, k _ p ⟨_, hp, pr0, hpH, has⟩ e1⟩
theorem okzw (T : Txt K mg A) : FnOk P w K mg base CX0 2 A.azw A.dzw ["line"] (spzw K) := by
 have Gzu := okzu P w base T
 refine T.fzw.ok (k := 1) sczw (fun vs H Q E h => ?_) (fun cdv Ar outer s H vs Q E hr h => ?_)
 ·obtain ⟨_, _, rfl, _⟩ := h; rfl
 obtain ⟨l, xs, rfl, hl, hlen, k⟩ := h
 refine ⟨_, (pI (pY (pe_lc (own := [("piece", 1)]) rfl sczw.nd (pi_list (pe_call Gzu (hr.mono (by decide : 1 ≤ 1)) rfl T.gzu T.fzu.kp T.bzu .nil pass0 (pA (pv 0) (pA (pe_glob (v := .int (32)) rfl T.gxm ⟨_, rfl⟩) pZ)))) (blkOk_by rfl) (by intro s H C cl fp; exact pg_name (i := 1) sczw.nd rfl (Or.inl rfl)) (by intro s H C cl fp; exact (pts_one (pt_truthK (K := K) rfl (pv 1) (fun _ => rfl)))) (by intro s H C cl fp; exact (pv 1))))), ?_⟩
 refine ⟨_, rfl, l, 32, xs, rfl, hl, hlen, fun H1 p hL e1 => ?_⟩
 obtain ⟨as, hp, pr, hpH, has⟩ := hL
 refine ⟨p, rfl, ⟨_, SqL.of hp⟩, fun D hD => ?_⟩
 refine lc_list (xs := as.map V.ref) (fun i H2 => ∃ as2 : List Addr, H2 D = some (.lst (as2.map V.ref)) ∧ Paired (fun a xs => H1 a = some (.lst (nVs xs))) as2 (((Vbsgae.parted 32 xs).take i).filter fun w => !w.isEmpty) ∧ Kp [] H1 H2) ⟨[], uS, .nil, .new hD⟩ ?_ ?_ ?_
 ·rintro i H2 _ ⟨as2, h1, h2, e2⟩
  exact SqL.of (e2.at_ hp)
 ·rintro i x H2 hx ⟨as2, h1, h2, e2⟩
  obtain ⟨a, ha, rfl⟩ := r_at hx
  obtain ⟨y, hy⟩ : ∃ y, (Vbsgae.parted 32 xs)[i]? = some y := ⟨_, List.getElem?_eq_getElem (by have := plen pr; have := (List.getElem?_eq_some_iff.mp ha).1; omega)⟩
  obtain ⟨a', q1, q2⟩ := pget pr hy
  rw [ha] at q1
  cases q1
  have et := take_snoc hy
  refine ⟨rfl, _, rfl, _, .inl ⟨_, SqL.of (e2.at_ q2), rfl⟩, ?_⟩
  rw [isNe]
  refine ite2 (fun hq => ?_) (fun hq => ?_)
  ·refine ⟨_, rfl, _, h1, szlt ?_, as2 ++ [a], ?_, ?_, e2.put_new hD⟩
   ·have := plen h2
    have h3 := List.length_filter_le (fun w : List Nat => !w.isEmpty) ((Vbsgae.parted 32 xs).take i)
    have := parted_len 32 xs
    rw [List.length_take] at h3
    rw [List.length_map]
    omega
   ·rw [uS, List.map_append]
    rfl
   ·rw [et, List.filter_append, show ([y].filter fun w => !w.isEmpty) = [y] by simp [hq]]
    exact papp h2 (.cons q2 .nil)
  ·refine ⟨as2, h1, ?_, e2⟩
   rw [et, List.filter_append, show ([y].filter fun w => !w.isEmpty) = [] by simpa using hq, List.append_nil]
   exact h2
 ·rintro H2 ⟨as2, h1, h2, e2⟩
  have : (Vbsgae.parted 32 xs).take (as.map V.ref).length = Vbsgae.parted 32 xs := by rw [List.length_map, plen pr]; exact List.take_length
  rw [this] at h2
  exact k _ D ⟨as2, h1, lla_keep0 h2 e2⟩ (e1.trans e2)
theorem okzx (T : Txt K mg A) : FnOk P w K mg base CX0 1 A.azx A.dzx ["digits"] (spzx K) := by
 refine T.fzx.ok (k := 0) sczx (fun vs H Q E h => ?_) (fun cdv Ar outer s H vs Q E hr h => ?_)
 ·obtain ⟨_, _, rfl, _⟩ := h; rfl
 obtain ⟨l, d, rfl, hl, hd, k⟩ := h
 refine ⟨_, (pQ (ps_if (PW.pt (pw_or (pt_not (pt_chain op_le op_le pe_int (pe_callB call_len_seq (by rfl) T.nlen bt_len (pA (pv 0) pZ)) (pe_glob (v := .int (5)) rfl T.gxu ⟨_, rfl⟩))) (pw_or1 (pt_cmpR op_eq (pe_ix ix_list (pv 0) pe_int (fun _ _ => rfl)) (pe_glob (v := .int (48)) rfl T.gxp ⟨_, rfl⟩) (nomark _))))) (pI (pY pe_int)) pss_nil)
  (pQ (ps_set (i := 1) sczx.nd rfl (Or.inl rfl) pe_int)
  (pQ (ps_for PassesOwn.never rfl (pi_list (pv 0)) (pg_name (i := 2) sczx.nd rfl (Or.inl rfl)) (pI (ps_set (i := 1) sczx.nd rfl (Or.inl rfl) (pe_op op_sub (pe_op op_add (pe_op op_mul (pv 1) pe_int) (pv 2)) (pe_glob (v := .int (48)) rfl T.gxp ⟨_, rfl⟩)))))
  (pI (pY (pe_ifExp (pt_cmpR op_le (pv 1) (pe_glob (v := .int (10000)) rfl T.gxt ⟨_, rfl⟩) (nomark _)) (pv 1) pe_int)))))), ?_⟩
 have hz : ∀ h : (!d.isEmpty && (decide (d.length ≤ 5) && (decide (d.headD 48 ≠ 48) && decide (Vbsgae.valueOf d ≤ Vbsgae.PRICE)))) = false, Q (.int 0) H := fun h => by
  have e : Vb.priceOf d = 0 := by unfold Vb.priceOf; rw [h]; rfl
  rw [e] at k
  exact k
 refine ⟨_, rfl, l, _, rfl, .inl hl, _, _, rfl, rfl, _, rfl, ite2 (fun h1 => ?_) (fun h1 => ?_)⟩
 ·have h1' : (1 : Int) ≤ ((nVs d).length : Int) := dT h1
  rw [List.length_map] at h1'
  refine ⟨_, _, rfl, rfl, _, rfl, ite2 (fun h2 => ?_) (fun h2 => ?_)⟩
  ·have h2' : ¬ ((nVs d).length : Int) ≤ 5 := by simpa using h2
   rw [List.length_map] at h2'
   refine iteT (hz ?_)
   rw [decide_eq_false (show ¬ d.length ≤ 5 by omega)]
   simp
  ·have h2' : ((nVs d).length : Int) ≤ 5 := by simpa using h2
   rw [List.length_map] at h2'
   obtain ⟨x0, r0, rfl⟩ : ∃ x r, d = x :: r := by
    cases d with
    | nil => simp at h1'
    | cons a r => exact ⟨a, r, rfl⟩
   refine ⟨_, rfl, l, _, _, nV x0, rfl, rfl, hl, at_nat (f := nV) (l := x0 :: r0) (i := 0) rfl, rfl, _, rfl, ite2 (fun h3 => ?_) (fun h3 => ?_)⟩
   ·have h3' : x0 = 48 := dN.mp h3
    refine hz ?_
    rw [h3']
    simp
   ·have h3' : ¬ x0 = 48 := fun e => h3 (dN.mpr e)
    refine ⟨_, rfl, l, rfl, ⟨_, hl⟩, for_list (xs := nVs (x0 :: r0)) (fun i σ H1 => ∃ v : Option V, σ = [some (.ref l), some (nV (Vbsgae.valueOf ((x0 :: r0).take i))), v] ∧ H1 = H) ⟨none, rfl, rfl⟩ ?_ ?_ ?_⟩
    ·rintro i σ H1 - ⟨v, rfl, rfl⟩
     exact hl
    ·rintro i x σ H1 hx ⟨v, rfl, rfl⟩
     obtain ⟨c, hc, rfl⟩ := n_at hx
     have hall : ((x0 :: r0).take i).all Vbsgae.digit = true := by
      rw [List.all_eq_true] at hd ⊢
      exact fun y hy => hd y (List.mem_of_mem_take hy)
     have hb := valueOf_lt hall
     have hb2 : 10 ^ ((x0 :: r0).take i).length ≤ 10 ^ 5 := Nat.pow_le_pow_right (by decide) (by rw [List.length_take]; omega)
     have hb3 : Vbsgae.valueOf ((x0 :: r0).take i) < 100000 := Nat.lt_of_lt_of_le hb hb2
     refine ⟨_, rfl, _, _, rfl, rfl, .inl ⟨?_, ?_⟩, _, rfl, _, _, rfl, rfl, _, _, rfl, rfl, some (nV c), ?_, rfl⟩
     ·show -(2 ^ 64 : Int) < _
      omega
     ·show _ < (2 ^ 64 : Int)
      omega
     ·have hdc : Vbsgae.digit c = true := List.all_eq_true.mp hd c (List.mem_of_getElem? hc)
      have h48 : 48 ≤ c := by
       unfold Vbsgae.digit at hdc
       rw [Bool.and_eq_true] at hdc
       exact of_decide_eq_true hdc.1
      rw [take_snoc hc, valueOf_snoc]
      have e : (Vbsgae.valueOf ((x0 :: r0).take i) : Int) * 10 + (c : Int) - 48 = ((10 * Vbsgae.valueOf ((x0 :: r0).take i) + (c - 48) : Nat) : Int) := by omega
      show _ = [some (V.ref l), some (V.int _), _]
      rw [← e]
      rfl
    ·rintro σ H1 ⟨v, rfl, rfl⟩
     have et : (x0 :: r0).take (nVs (x0 :: r0)).length = x0 :: r0 := by rw [List.length_map]; exact List.take_length
     rw [et]
     refine ⟨_, rfl, _, _, rfl, rfl, _, rfl, ite2 (fun h4 => ?_) (fun h4 => ?_)⟩
     ·have h4' : (Vbsgae.valueOf (x0 :: r0) : Int) ≤ 10000 := dT h4
      refine ⟨_, rfl, ?_⟩
      have e : Vb.priceOf (x0 :: r0) = Vbsgae.valueOf (x0 :: r0) := by
       unfold Vb.priceOf
       rw [if_pos]
       rw [decide_eq_true (show (x0 :: r0).length ≤ 5 by omega), decide_eq_true (show (x0 :: r0).headD 48 ≠ 48 from h3'), decide_eq_true (show Vbsgae.valueOf (x0 :: r0) ≤ Vbsgae.PRICE by show _ ≤ 10000; omega)]
       rfl
      rw [e] at k
      exact k
     ·have h4' : ¬ (Vbsgae.valueOf (x0 :: r0) : Int) ≤ 10000 := dF h4
      refine hz ?_
      rw [decide_eq_false (show ¬ Vbsgae.valueOf (x0 :: r0) ≤ Vbsgae.PRICE by show ¬ _ ≤ 10000; omega)]
      simp
 ·have h1' : ¬ (1 : Int) ≤ ((nVs d).length : Int) := dF h1
  rw [List.length_map] at h1'
  have : d = [] := List.length_eq_zero_iff.mp (by omega)
  subst this
  exact ⟨_, rfl, iteT (iteT (hz rfl))⟩
theorem okzy (T : Txt K mg A) : FnOk P w K mg base CX0 1 A.azy A.dzy ["signs"] (spzy) := by
 refine T.fzy.ok (k := 0) sczy (fun vs H Q E h => ?_) (fun cdv Ar outer s H vs Q E hr h => ?_)
 ·obtain ⟨_, _, rfl, _⟩ := h; rfl
 obtain ⟨l, ls, rfl, hl, k⟩ := h
 refine ⟨_, (pQ (ps_if (PW.pt (pw_and (pt_cmpR op_in_seq (pe_glob (v := .int (98)) rfl T.gxf ⟨_, rfl⟩) (pv 0) rfl) (pw_and1 (pt_cmpR op_in_seq (pe_glob (v := .int (99)) rfl T.gxg ⟨_, rfl⟩) (pv 0) rfl)))) (pI (pY pe_bl)) pss_nil)
  (pI (pY (pe_cmpR (op_eqD (by exact hr.units)) (pv 0) (pe_callTy call_tuple_of (by rfl) T.ntuple bt_tuple (pA (pe_lc (own := [("letter", 1)]) rfl sczy.nd (pi_tup (pe_glob (v := .ref A.axi) rfl T.gxi rfl)) (blkOk_by rfl) (by intro s H C cl fp; exact pg_name (i := 1) sczy.nd rfl (Or.inl rfl)) (by intro s H C cl fp; exact (pts_one (pt_cmpR (op_in_seqK (K := K) rfl) (pv 1) (pv 0) rfl))) (by intro s H C cl fp; exact (pv 1))) pZ)) (nomark _))))), ?_⟩
 rw [good_eq] at k
 refine cut1 fun F hF => ?_
 have fin : ¬ (ls.contains 98 && ls.contains 99) = true → F (Ds Q) [some (.ref l), none] H := by
  intro hn
  subst hF
  rw [if_neg hn] at k
  refine ⟨_, rfl, A.axi, rfl, ⟨_, T.txi _⟩, fun D hD => ?_⟩
  refine lc_tup (xs := nVs [98, 99, 101, 102]) (fun i H2 => H2 D = some (.lst (nVs (([98, 99, 101, 102].take i).filter fun x => ls.contains x))) ∧ Kp [] H H2) ⟨uS, .new hD⟩ ?_ ?_ ?_
  ·rintro i H2 _ ⟨h1, e2⟩
   exact T.txi _
  ·rintro i x H2 hx ⟨h1, e2⟩
   obtain ⟨c, hc, rfl⟩ := n_at hx
   have et := take_snoc hc
   refine ⟨rfl, _, rfl, _, rfl, l, _, rfl, .inr (SqT.of (e2.at_ hl)), rfl, flat_n _, _, rfl, ?_⟩
   show if inV (nV c) (nVs ls) = true then _ else _
   rw [inV_c]
   refine ite2 (fun hq => ?_) (fun hq => ?_)
   ·refine ⟨_, rfl, _, h1, szlt ?_, ?_, e2.put_new hD⟩
    ·have h3 := List.length_filter_le (fun x => ls.contains x) ([98, 99, 101, 102].take i)
     rw [List.length_take] at h3
     rw [List.length_map]
     have : [98, 99, 101, 102].length = 4 := rfl
     omega
    ·rw [uS, et, List.filter_append, List.filter_cons, if_pos hq, nV_app]
     rfl
   ·refine ⟨?_, e2⟩
    rw [h1, et, List.filter_append, List.filter_cons, if_neg hq, List.filter_nil, List.append_nil]
  ·rintro H2 ⟨h1, e2⟩
   refine ⟨D, _, rfl, .inl ⟨SqL.of h1, fun q hq => ?_⟩⟩
   have e3 := e2.trans (.new (p := q) (o := .tup (nVs (([98, 99, 101, 102].take (nVs [98, 99, 101, 102]).length).filter fun x => ls.contains x))) hq)
   refine ⟨ntD ls, ntD _, nt_dp (e3.at_ hl), nt_dp uS, ntD_ok _, ntD_ok _, ?_⟩
   rw [ntD_eqv]
   exact k _ e3
 refine ⟨_, rfl, l, _, rfl, .inr (SqT.of hl), rfl, flat_n _, _, rfl, ?_⟩
 have ei : inV (V.int 98) (nVs ls) = ls.contains 98 := inV_c 98 _
 have ej : inV (V.int 99) (nVs ls) = ls.contains 99 := inV_c 99 _
 show if inV (V.int 98) (nVs ls) = true then _ else _
 rw [ei]
 refine ite2 (fun h1 => ?_) (fun h1 => iteF (fin fun q => h1 (Bool.and_eq_true _ _ ▸ q).1))
 refine ⟨_, rfl, l, _, rfl, .inr (SqT.of hl), rfl, flat_n _, _, rfl, ?_⟩
 show if inV (V.int 99) (nVs ls) = true then _ else _
 rw [ej]
 refine ite2 (fun h2 => ?_) (fun h2 => fin fun q => h2 (Bool.and_eq_true _ _ ▸ q).2)
 rw [if_pos (by rw [h1, h2]; rfl)] at k
 exact k _ (.refl _ _)
end
end Pb
namespace Pb
open PySem PySem.Spec PyProof.Rows L2 Vb
open Vbsgae (Cell Board Marker Table State)
section
variable (P : Program) (w : World) {K : W.Frag} {mg : Str → Option Value} (base : Heap) {A : Adr}
def plF (x : Nat) : Bool := decide (32 ≤ x) && decide (x ≤ 126)
theorem RowA.at {H : Hp} {r : Addr} {row : List Cell} {cs : List Addr} (pc : Paired (CellA H) cs row) {k : Nat} (hk : k < row.length) : ∃ (c l : Addr), cs[k]? = some c ∧ H c = some (.tup [nV (row.getD k ⟨0, []⟩).price, .ref l]) := by
 obtain ⟨x, hx⟩ : ∃ x, row[k]? = some x := ⟨_, List.getElem?_eq_getElem hk⟩
 obtain ⟨c, h1, l, h2, _⟩ := pget pc hx
 have : row.getD k ⟨0, []⟩ = x := by rw [List.getD_eq_getElem?_getD, hx]; rfl
 rw [this]
 exact ⟨c, l, h1, h2⟩
theorem bl_app (l : List Bool) (b : Bool) : (l ++ [b]).map V.bl = l.map V.bl ++ [.bl b] := by rw [List.map_append]; rfl
theorem okzD (T : Txt K mg A) : FnOk P w K mg base CX0 1 A.azD A.dzD ["line"] (spzD K) := by
 refine T.fzD.ok (k := 0) sczD (fun vs H Q E h => ?_) (fun cdv Ar outer s H vs Q E hr h => ?_)
 ·obtain ⟨_, _, rfl, _⟩ := h; rfl
 obtain ⟨l, xs, rfl, hl, hlen, k⟩ := h
 refine ⟨_, (pI (pY (pe_callB (cr_all rfl) (by rfl) T.nall bt_all (pA (pe_lc (own := [("sign", 1)]) rfl sczD.nd (pi_list (pv 0)) (blkOk_by rfl) (by intro s H C cl fp; exact pg_name (i := 1) sczD.nd rfl (Or.inl rfl)) (by intro s H C cl fp; exact pts_nil) (by intro s H C cl fp; exact (pe_chain op_le op_le (pe_glob (v := .int (32)) rfl T.gxm ⟨_, rfl⟩) (pv 1) (pe_glob (v := .int (126)) rfl T.gxn ⟨_, rfl⟩)))) pZ)))), ?_⟩
 refine ⟨_, rfl, l, rfl, ⟨_, hl⟩, fun D hD => ?_⟩
 refine lc_list (xs := nVs xs) (fun i H2 => H2 D = some (.lst (((xs.take i).map plF).map V.bl)) ∧ Kp [] H H2) ⟨uS, .new hD⟩ ?_ ?_ ?_
 ·rintro i H2 _ ⟨h1, e2⟩
  exact e2.seq0 hl
 ·rintro i x H2 hx ⟨h1, e2⟩
  obtain ⟨c, hc, rfl⟩ := n_at hx
  have hi := (List.getElem?_eq_some_iff.mp hc).1
  have fin : ∀ y, y = V.bl (plF c) → ∃ acc, H2 D = some (.lst acc) ∧ acc.length < sizeLine ∧ (upd H2 D (.lst (acc ++ [y])) D = some (.lst (((xs.take (i + 1)).map plF).map V.bl)) ∧ Kp [] H (upd H2 D (.lst (acc ++ [y])))) := by
   rintro y rfl
   refine ⟨_, h1, szlt (by rw [List.length_map, List.length_map, List.length_take]; omega), ?_, e2.put_new hD⟩
   rw [uS, take_snoc hc, List.map_append, show [c].map plF = [plF c] from rfl, bl_app]
  refine ⟨rfl, yesI ⟨_, rfl, _, _, rfl, rfl, _, rfl, ite2 (fun h => ?_) (fun h => ?_)⟩⟩
  ·have h' : (32 : Int) ≤ (c : Int) := dT h
   refine ⟨_, _, rfl, rfl, fin _ ?_⟩
   unfold plF
   rw [decide_eq_true (show 32 ≤ c by omega), Bool.true_and]
   exact congrArg V.bl (decide_eq_decide.mpr (by omega))
  ·have h' : ¬ (32 : Int) ≤ (c : Int) := dF h
   refine fin _ ?_
   unfold plF
   rw [decide_eq_false (show ¬ 32 ≤ c by omega), Bool.false_and]
 ·rintro H2 ⟨h1, e2⟩
  have : xs.take (nVs xs).length = xs := by rw [List.length_map]; exact List.take_length
  rw [this] at h1
  refine ⟨D, _, rfl, SqL.of h1, ?_⟩
  have e : (xs.map plF).all id = Vbsgae.plain xs := by rw [List.all_map]; rfl
  rw [e]
  exact k _ e2
theorem okzA (T : Txt K mg A) : FnOk P w K mg base CX0 1 A.azA A.dzA ["row"] (spzA) := by
 refine T.fzA.ok (k := 0) sczA (fun vs H Q E h => ?_) (fun cdv Ar outer s H vs Q E hr h => ?_)
 ·obtain ⟨_, _, rfl, _⟩ := h; rfl
 obtain ⟨r, row, rfl, ⟨cs, hr', pc⟩, hlen, k⟩ := h
 refine ⟨_, (pI (pY (pe_callB (cr_all rfl) (by rfl) T.nall bt_all (pA (pe_lc (own := [("k", 1)]) rfl sczA.nd (pi_range2 rfl T.nrange (pA pe_int (pA (pe_callB call_len_seq (by rfl) T.nlen bt_len (pA (pv 0) pZ)) pZ))) (blkOk_by rfl) (by intro s H C cl fp; exact pg_name (i := 1) sczA.nd rfl (Or.inl rfl)) (by intro s H C cl fp; exact pts_nil) (by intro s H C cl fp; exact (pe_cmpR op_lt (pe_ix (ix_tupK (K := K) rfl) (pe_ix (ix_listK (K := K) rfl) (pv 0) (pe_op op_sub (pv 1) pe_int) (fun _ _ => rfl)) pe_int (fun _ _ => rfl)) (pe_ix (ix_tupK (K := K) rfl) (pe_ix (ix_listK (K := K) rfl) (pv 0) (pv 1) (fun _ _ => rfl)) pe_int (fun _ _ => rfl)) (nomark _)))) pZ)))), ?_⟩
 have hcl : cs.length = row.length := plen pc
 refine ⟨_, rfl, r, _, rfl, .inl (SqL.of hr'), 1, _, rfl, ⟨by decide, by decide, by omega, by rw [List.length_map]; omega⟩, fun D hD => ?_⟩
 refine lc_range (fun i H2 => H2 D = some (.lst (((List.range i).map fun i => decide ((row.map fun c => c.price).getD i 0 < (row.map fun c => c.price).getD (i + 1) 0)).map V.bl)) ∧ Kp [] H H2) ⟨uS, .new hD⟩ ?_ ?_
 ·rintro i H2 hi ⟨h1, e2⟩
  rw [List.length_map] at hi
  have hi' : i + 1 < row.length := by omega
  obtain ⟨c1, l1, q1, q2⟩ := RowA.at (r := r) pc (k := i) (by omega)
  obtain ⟨c2, l2, q3, q4⟩ := RowA.at (r := r) pc (k := i + 1) hi'
  have hg : ∀ j, j < row.length → (row.map fun c => c.price).getD j 0 = (row.getD j ⟨0, []⟩).price := fun j hj => by
   rw [List.getD_eq_getElem?_getD, List.getD_eq_getElem?_getD, List.getElem?_map, List.getElem?_eq_getElem hj]
   rfl
  refine ⟨rfl, yesI ⟨_, rfl, _, rfl, _, _, rfl, rfl, r, _, _, .ref c1, rfl, rfl, SqL.of (e2.at_ hr'), at_of (j := i) (by omega) (map_get q1), c1, _, _, _, rfl, rfl, SqT.of (e2.tup _ _ q2), rfl, _, rfl, _, rfl, r, _, _, .ref c2, rfl, rfl, SqL.of (e2.at_ hr'), at_of (j := i + 1) (by omega) (map_get q3), c2, _, _, _, rfl, rfl, SqT.of (e2.tup _ _ q4), rfl, _, _, rfl, rfl, _, h1, szlt (by rw [List.length_map, List.length_map, List.length_range]; omega), ?_, e2.put_new hD⟩⟩
  rw [uS, List.range_succ, List.map_append, List.map_cons, List.map_nil, bl_app, hg i (by omega), hg (i + 1) hi']
  refine congrArg (fun z => some (HO.lst (_ ++ [V.bl z]))) ?_
  exact decide_eq_decide.mpr (by omega)
 ·rintro H2 ⟨h1, e2⟩
  refine ⟨D, _, rfl, SqL.of h1, ?_⟩
  have e : (((cs.map V.ref).length : Int) - 1).toNat = (row.map fun c => c.price).length - 1 := by rw [List.length_map, List.length_map]; omega
  rw [e, ← rising_range]
  exact k _ e2
theorem okzB (T : Txt K mg A) : FnOk P w K mg base CX0 1 A.azB A.dzB ["row", "above"] (spzB) := by
 refine T.fzB.ok (k := 0) sczB (fun vs H Q E h => ?_) (fun cdv Ar outer s H vs Q E hr h => ?_)
 ·obtain ⟨_, _, _, _, rfl, _⟩ := h; rfl
 obtain ⟨r, a, row, above, rfl, ⟨cs, hr', pc⟩, ⟨ds, ha', pd⟩, hlen, halen, k⟩ := h
 refine ⟨_, (pI (pY (pe_and (pe_cmpR op_le (pe_callB call_len_seq (by rfl) T.nlen bt_len (pA (pv 0) pZ)) (pe_callB call_len_seq (by rfl) T.nlen bt_len (pA (pv 1) pZ)) (nomark _)) (pe_one (pe_callB (cr_all rfl) (by rfl) T.nall bt_all (pA (pe_lc (own := [("k", 2)]) rfl sczB.nd (pi_range1 rfl T.nrange (pA (pe_callB call_len_seq (by rfl) T.nlen bt_len (pA (pv 0) pZ)) pZ)) (blkOk_by rfl) (by intro s H C cl fp; exact pg_name (i := 2) sczB.nd rfl (Or.inl rfl)) (by intro s H C cl fp; exact pts_nil) (by intro s H C cl fp; exact (pe_cmpR op_le (pe_ix (ix_tupK (K := K) rfl) (pe_ix (ix_listK (K := K) rfl) (pv 0) (pv 2) (fun _ _ => rfl)) pe_int (fun _ _ => rfl)) (pe_ix (ix_tupK (K := K) rfl) (pe_ix (ix_listK (K := K) rfl) (pv 1) (pv 2) (fun _ _ => rfl)) pe_int (fun _ _ => rfl)) (nomark _)))) pZ)))))), ?_⟩
 have hcl : cs.length = row.length := plen pc
 have hdl : ds.length = above.length := plen pd
 rw [under_range] at k
 refine ⟨_, rfl, r, _, rfl, .inl (SqL.of hr'), _, rfl, a, _, rfl, .inl (SqL.of ha'), _, _, rfl, rfl, _, rfl, ite2 (fun h0 => ?_) (fun h0 => ?_)⟩
 ·have h0' : ((cs.map V.ref).length : Int) ≤ ((ds.map V.ref).length : Int) := dT h0
  rw [List.length_map, List.length_map] at h0'
  have hra : row.length ≤ above.length := by omega
  rw [decide_eq_true hra] at k
  refine ⟨_, rfl, r, _, rfl, .inl (SqL.of hr'), _, rfl, by omega, by rw [List.length_map]; omega, fun D hD => ?_⟩
  refine lc_range (fun i H2 => H2 D = some (.lst (((List.range i).map fun k => decide ((row.getD k ⟨0, []⟩).price ≤ (above.getD k ⟨0, []⟩).price)).map V.bl)) ∧ Kp [] H H2) ⟨uS, .new hD⟩ ?_ ?_
  ·rintro i H2 hi ⟨h1, e2⟩
   rw [List.length_map] at hi
   obtain ⟨c1, l1, q1, q2⟩ := RowA.at (r := r) pc (k := i) (by omega)
   obtain ⟨c2, l2, q3, q4⟩ := RowA.at (r := r) pd (k := i) (by omega)
   refine ⟨rfl, yesI ⟨_, rfl, _, rfl, r, _, _, .ref c1, rfl, rfl, SqL.of (e2.at_ hr'), at_of (j := i) (by omega) (map_get q1), c1, _, _, _, rfl, rfl, SqT.of (e2.tup _ _ q2), rfl, _, rfl, _, rfl, a, _, _, .ref c2, rfl, rfl, SqL.of (e2.at_ ha'), at_of (j := i) (by omega) (map_get q3), c2, _, _, _, rfl, rfl, SqT.of (e2.tup _ _ q4), rfl, _, _, rfl, rfl, _, h1, szlt (by rw [List.length_map, List.length_map, List.length_range]; omega), ?_, e2.put_new hD⟩⟩
   rw [uS, List.range_succ, List.map_append, List.map_cons, List.map_nil, bl_app]
   refine congrArg (fun z => some (HO.lst (_ ++ [V.bl z]))) ?_
   exact decide_eq_decide.mpr (by omega)
  ·rintro H2 ⟨h1, e2⟩
   refine ⟨D, _, rfl, SqL.of h1, ?_⟩
   have e : ((cs.map V.ref).length : Int).toNat = row.length := by rw [List.length_map]; omega
   rw [e]
   exact k _ e2
 ·have h0' : ¬ ((cs.map V.ref).length : Int) ≤ ((ds.map V.ref).length : Int) := dF h0
  rw [List.length_map, List.length_map] at h0'
  rw [decide_eq_false (show ¬ row.length ≤ above.length by omega)] at k
  exact k _ (.refl _ _)
def wcnt (n : Nat) (σ : L2.St) : Nat := n - (match σ with
 | [_, some (.int k), _, _] => k.toNat
 | _ => 0)
theorem okzz (T : Txt K mg A) : FnOk P w K mg base CX0 2 A.azz A.dzz ["word"] (spzz K) := by
 have Gzx := okzx P w base T
 have Gzy := okzy P w base T
 refine T.fzz.ok (k := 1) sczz (fun vs H Q E h => ?_) (fun cdv Ar outer s H vs Q E hr h => ?_)
 ·obtain ⟨_, _, rfl, _⟩ := h; rfl
 obtain ⟨l, wd, rfl, hl, hlen, k⟩ := h
 refine ⟨_, (pQ (ps_set (i := 1) sczz.nd rfl (Or.inl rfl) pe_int)
  (pQ (ps_while PassesOwn.never (PW.pt (pw_and (pt_cmpR op_lt (pv 1) (pe_callB call_len_seq (by rfl) T.nlen bt_len (pA (pv 0) pZ)) (nomark _)) (pw_and1 (pt_chain op_le op_le (pe_glob (v := .int (48)) rfl T.gxp ⟨_, rfl⟩) (pe_ix ix_list (pv 0) (pv 1) (fun _ _ => rfl)) (pe_glob (v := .int (57)) rfl T.gxq ⟨_, rfl⟩))))) (pI (ps_aug (i := 1) sczz.nd rfl (Or.inl rfl) pe_int ip_add)))
  (pQ (ps_set (i := 2) sczz.nd rfl (Or.inl rfl) (pe_call Gzx (hr.mono (by decide : 1 ≤ 1)) rfl T.gzx T.fzx.kp T.bzx .nil pass0 (pA (pe_slice sl_list (pv 0) po_none (po_some (pv 1))) pZ)))
  (pQ (ps_set (i := 3) sczz.nd rfl (Or.inl rfl) (pe_callTy call_tuple_of (by rfl) T.ntuple bt_tuple (pA (pe_slice sl_list (pv 0) (po_some (pv 1)) po_none) pZ)))
  (pQ (ps_if (PW.pt (pw_or (pt_cmpR op_eq (pv 2) pe_int (nomark _)) (pw_or1 (pt_not (pt_val (pe_call Gzy (hr.mono (by decide : 1 ≤ 1)) rfl T.gzy T.fzy.kp T.bzy .nil pass0 (pA (pv 3) pZ))))))) (pI (pY pe_non)) pss_nil)
  (pI (pY (pe_tup (pA (pv 2) (pA (pv 3) pZ)))))))))), ?_⟩
 rw [cellOf_eq] at k
 have htl := tw_le wd
 refine cut2 fun F hF => ?_
 have fin : F (Ds Q) [some (.ref l), some (nV (wd.takeWhile Vbsgae.digit).length), none, none] H := by
  subst hF
  have hall := tw_all wd
  have htk := tw_take wd
  generalize (wd.takeWhile Vbsgae.digit).length = n at *
  generalize wd.takeWhile Vbsgae.digit = d at *
  refine ⟨_, rfl, _, rfl, _, rfl, l, _, rfl, hl, fun p hp => ?_⟩
  rw [cut_to htl, htk]
  have e1 : Kp [] H (upd H p (.lst (nVs d))) := .new hp
  refine ⟨p, d, rfl, SqL.of uS, hall, ?_⟩
  refine ⟨_, rfl, _, rfl, _, rfl, l, _, rfl, e1.seq0 hl, fun q hq => ?_⟩
  rw [cut_from htl]
  have e2 := e1.trans (.new (p := q) (o := .lst (nVs (wd.drop n))) hq)
  refine ⟨q, _, rfl, .inl ⟨SqL.of uS, fun t ht => ?_⟩⟩
  have e3 := e2.trans (.new (p := t) (o := .tup (nVs (wd.drop n))) ht)
  have ht3 : upd (upd (upd H p (.lst (nVs d))) q (.lst (nVs (wd.drop n)))) t (.tup (nVs (wd.drop n))) t = some (.tup (nVs (wd.drop n))) := uS
  generalize upd (upd (upd H p (.lst (nVs d))) q (.lst (nVs (wd.drop n)))) t (.tup (nVs (wd.drop n))) = H3 at e3 ht3
  refine ⟨_, rfl, rfl, _, rfl, ite2 (fun h1 => ?_) (fun h1 => ?_)⟩
  ·have h1' : Vb.priceOf d = 0 := dN.mp h1
   rw [if_pos (.inl h1')] at k
   exact iteT (k _ _ rfl e3)
  ·have h1' : ¬ Vb.priceOf d = 0 := fun e => h1 (dN.mpr e)
   refine ⟨_, rfl, t, _, rfl, ht3, fun H4 e4 => ⟨_, rfl, ite2 (fun h2 => ?_) (fun h2 => ?_)⟩⟩
   ·have h2' : Vb.goodLetters (wd.drop n) = false := by simpa using h2
    rw [if_pos (.inr h2')] at k
    exact k _ _ rfl (e3.trans e4)
   ·have h2' : ¬ Vb.goodLetters (wd.drop n) = false := by simpa using h2
    rw [if_neg (fun e => e.elim h1' h2')] at k
    refine ⟨_, rfl, _, rfl, sz, fun c hc => k _ _ ⟨c, rfl, t, uS, ?_⟩ ((e3.trans e4).trans (.new hc))⟩
    exact (Kp.new (S := []) hc).tup _ _ (e4.tup _ _ ht3)
 dsimp only [gName, tSeq, tAsg, tC]
 refine while_by (fun σ H1 => ∃ n : Nat, σ = [some (.ref l), some (nV n), none, none] ∧ H1 = H ∧ n ≤ (wd.takeWhile Vbsgae.digit).length) (fun σ _ => wcnt wd.length σ) ⟨0, rfl, rfl, Nat.zero_le _⟩ ?_ ?_
 ·rintro σ H1 ⟨n, rfl, rfl, hn⟩
  have hdg : ∀ x, Vbsgae.digit x = true ↔ 48 ≤ x ∧ x ≤ 57 := fun x => by unfold Vbsgae.digit; simp
  have end_ : n = (wd.takeWhile Vbsgae.digit).length → F (Ds Q) [some (.ref l), some (nV n), none, none] H1 := fun e => by rw [e]; exact fin
  refine ⟨_, rfl, _, rfl, l, _, rfl, .inl hl, _, _, rfl, rfl, _, rfl, ite2 (fun h1 => ?_) (fun h1 => ?_)⟩
  ·have h1' : (n : Int) < ((nVs wd).length : Int) := dT h1
   rw [List.length_map] at h1'
   obtain ⟨c, hc⟩ : ∃ c, wd[n]? = some c := ⟨_, List.getElem?_eq_getElem (by omega)⟩
   have no : Vbsgae.digit c = false → n = (wd.takeWhile Vbsgae.digit).length := fun h => by
    rcases twDigit wd n hn with ⟨e, _⟩ | ⟨x, hx, h2, _⟩
    ·exact e
    ·rw [hc] at hx
     cases hx
     rw [h] at h2
     cases h2
   refine ⟨_, rfl, _, rfl, l, _, _, _, rfl, rfl, hl, at_nat hc, _, _, rfl, rfl, _, rfl, ite2 (fun h2 => ?_) (fun h2 => ?_)⟩
   ·have h2' : (48 : Int) ≤ (c : Int) := dT h2
    refine ⟨_, _, rfl, rfl, _, rfl, ite2 (fun h3 => ?_) (fun h3 => ?_)⟩
    ·have h3' : (c : Int) ≤ 57 := dT h3
     have hd : Vbsgae.digit c = true := (hdg c).mpr (by omega)
     have hn' : n + 1 ≤ (wd.takeWhile Vbsgae.digit).length := by
      rcases twDigit wd n hn with ⟨e, h⟩ | ⟨x, hx, _, h⟩
      ·rw [h c hc] at hd
       cases hd
      ·exact h
     refine ⟨_, rfl, _, _, rfl, rfl, ⟨n + 1, rfl, rfl, hn'⟩, ?_⟩
     show wd.length - ((n : Int) + 1).toNat < wd.length - (n : Int).toNat
     omega
    ·have h3' : ¬ (c : Int) ≤ 57 := dF h3
     exact end_ (no (by
      cases e : Vbsgae.digit c with
      | false => rfl
      | true => have := (hdg c).mp e; omega))
   ·have h2' : ¬ (48 : Int) ≤ (c : Int) := dF h2
    exact ⟨_, rfl, iteF (end_ (no (by
      cases e : Vbsgae.digit c with
      | false => rfl
      | true => have := (hdg c).mp e; omega)))⟩
  ·have h1' : ¬ (n : Int) < ((nVs wd).length : Int) := dF h1
   rw [List.length_map] at h1'
   exact iteF (end_ (by omega))
 ·rintro σ H1 Q1 Q2 f ⟨v1, a1, v2, a2, p, ys, a3, a4, i, j, a5, a6, kk, a7, h⟩
  refine ⟨v1, a1, v2, a2, p, ys, a3, a4, i, j, a5, a6, kk, a7, ?_⟩
  by_cases hk : kk = true
  ·rw [if_pos hk] at h ⊢
   obtain ⟨v3, b1, v4, b2, p2, xs, z, v, b3, b4, b5, b6, i2, j2, b7, b8, k2, b9, h⟩ := h
   refine ⟨v3, b1, v4, b2, p2, xs, z, v, b3, b4, b5, b6, i2, j2, b7, b8, k2, b9, ?_⟩
   by_cases hk2 : k2 = true
   ·rw [if_pos hk2] at h ⊢
    obtain ⟨i3, j3, c1, c2, k3, c3, h⟩ := h
    exact ⟨i3, j3, c1, c2, k3, c3, f _ _ h⟩
   ·rw [if_neg hk2] at h ⊢
    obtain ⟨k3, c3, h⟩ := h
    exact ⟨k3, c3, f _ _ h⟩
  ·rw [if_neg hk] at h ⊢
   exact f _ _ h
def cellD (o : Option Cell) : PyData := match o with
 | none => .none
 | some c => .tuple [.int c.price, ntD c.letters]
theorem CellV.keep {H H' : Hp} {S : List Addr} {v : V} {o : Option Cell} (h : CellV H v o) (e : Kp S H H') : CellV H' v o := by
 cases o with
 | none => exact h
 | some c => obtain ⟨a, rfl, h⟩ := h; exact ⟨a, rfl, h.keep e⟩
theorem CellV.dp {H : Hp} {v : V} {o : Option Cell} (h : CellV H v o) : Dp K H v (cellD o) := by
 cases o with
 | none => have : v = .non := h; rw [this]; exact .non
 | some c => obtain ⟨a, rfl, l, h1, h2⟩ := h; exact .tup (SqT.of h1) (.cons (.int _) (.cons (nt_dp h2) .nil))
theorem cells_dp {H : Hp} : ∀ {vs : List V} {os : List (Option Cell)}, Paired (CellV H) vs os → DpAll K H vs (os.map cellD)
 | _, _, .nil => .nil
 | _, _, .cons a t => .cons a.dp (cells_dp t)
theorem cells_lay : ∀ os : List (Option Cell), PyData.canLayAll0 (os.map cellD) = true
 | [] => rfl
 | o :: os => by
  show (PyData.canLay0 (cellD o) && PyData.canLayAll0 (os.map cellD)) = true
  rw [cells_lay os, Bool.and_true]
  cases o with
  | none => rfl
  | some c =>
   show (true && (PyData.canLayAll0 (ntA c.letters) && true)) = true
   rw [ntA_lay]
   rfl
theorem cells_none : ∀ os : List (Option Cell), ((os.map cellD).any fun e => PyData.eqv e .none) = os.any Option.isNone
 | [] => rfl
 | o :: os => by
  rw [List.map_cons, List.any_cons, List.any_cons, cells_none os]
  cases o with
  | none => rfl
  | some c => rfl
def topOk (back : Board) (row : List Cell) : Bool := match back with
 | [] => true
 | a :: _ => Vbsgae.under a row
theorem rowOf_eq' {back : Board} {ws : List (List Nat)} (hb : back.length ≤ 12) : rowOf back ws =
  if back.length = 12 ∨ 20 < ws.length then none else match Vbsgae.cellsOf ws with
   | none => none
   | some row => if Vbsgae.rising (row.map fun c => c.price) = false then none else if topOk back row = false then none else some row := by
 rw [rowOf_eq hb]
 cases back <;> rfl
theorem cells_row {H : Hp} : ∀ {vs : List V} {row : List Cell}, Paired (CellV H) vs (row.map Option.some) → ∃ cs : List Addr, vs = cs.map V.ref ∧ Paired (CellA H) cs row
 | vs, [], h => by cases h; exact ⟨[], rfl, .nil⟩
 | vs, c :: row, h => by
  cases h with
  | cons a t =>
   obtain ⟨x, rfl, hx⟩ := a
   obtain ⟨cs, rfl, h2⟩ := cells_row t
   exact ⟨x :: cs, rfl, .cons hx h2⟩
theorem okzC (T : Txt K mg A) : FnOk P w K mg base CX0 3 A.azC A.dzC ["words", "rows"] (spzC) := by
 have Gzz := okzz P w base T
 have GzA := okzA P w base T
 have GzB := okzB P w base T
 refine T.fzC.ok (k := 2) sczC (fun vs H Q E h => ?_) (fun cdv Ar outer s H vs Q E hr h => ?_)
 ·obtain ⟨_, _, _, _, _, rfl, _⟩ := h; rfl
 obtain ⟨p, q, ws, rs, b, rfl, ⟨as, hp, pw⟩, hwl, hwn, ⟨hq, prs⟩, bg, k⟩ := h
 refine ⟨_, (pQ (ps_if (PW.pt (pw_or (pt_cmpR op_eq (pe_callB call_len_seq (by rfl) T.nlen bt_len (pA (pv 1) pZ)) (pe_glob (v := .int (12)) rfl T.gxr ⟨_, rfl⟩) (nomark _)) (pw_or1 (pt_cmpR op_gt (pe_callB call_len_seq (by rfl) T.nlen bt_len (pA (pv 0) pZ)) (pe_glob (v := .int (20)) rfl T.gxs ⟨_, rfl⟩) (nomark _))))) (pI (pY pe_non)) pss_nil)
  (pQ (ps_setLc (i := 2) (own := [("word", 3)]) rfl sczC.nd rfl rfl (sw_true rfl rfl rfl rfl) (pi_list (pv 0)) (blkOk_by rfl) (by intro s H C cl fp; exact pg_name (i := 3) sczC.nd rfl (Or.inl rfl)) (by intro s H C cl fp; exact pts_nil) (by intro s H C cl fp; exact (pe_call Gzz (hr.mono (by decide : 2 ≤ 2)) rfl T.gzz T.fzz.kp T.bzz .nil pass0 (pA (pv 3) pZ))))
  (pQ (ps_if (PW.pt (pw_or (pt_cmpR (op_inD (by exact hr.units66)) pe_non (pv 2) rfl) (pw_or1 (pt_not (pt_val (pe_call GzA (hr.mono (by decide : 1 ≤ 2)) rfl T.gzA T.fzA.kp T.bzA .nil pass0 (pA (pv 2) pZ))))))) (pI (pY pe_non)) pss_nil)
  (pQ (ps_if (PW.pt (pw_and (pt_truth (pv 1) (fun _ => rfl)) (pw_and1 (pt_not (pt_val (pe_call GzB (hr.mono (by decide : 1 ≤ 2)) rfl T.gzB T.fzB.kp T.bzB .nil pass0 (pA (pv 2) (pA (pe_ix ix_list (pv 1) (pe_un un_neg pe_int) (fun _ _ => rfl)) pZ)))))))) (pI (pY pe_non)) pss_nil)
  (pI (pY (pv 2))))))), ?_⟩
 have hrl : rs.length = b.length := plen prs
 have hal : as.length = ws.length := plen pw
 have hb12 := bg.len
 rw [rowOf_eq' (by rw [List.length_reverse]; exact hb12)] at k
 rw [List.length_reverse] at k
 refine cut1 fun F hF => ?_
 have fin : ¬ (b.length = 12 ∨ 20 < ws.length) → F (Ds Q) [some (.ref p), some (.ref q), none, none] H := by
  intro hn
  subst hF
  rw [if_neg hn] at k
  have hw20 : ws.length ≤ 20 := by omega
  refine ⟨_, rfl, p, rfl, ⟨_, SqL.of hp⟩, fun D hD => ?_⟩
  refine lc_list (xs := as.map V.ref) (fun i H2 => ∃ vs : List V, H2 D = some (.lst vs) ∧ Paired (CellV H2) vs ((ws.take i).map Vbsgae.cellOf) ∧ Kp [] H H2) ⟨[], uS, .nil, .new hD⟩ ?_ ?_ ?_
  ·rintro i H2 _ ⟨vs, h1, h2, e2⟩
   exact SqL.of (e2.at_ hp)
  ·rintro i x H2 hx ⟨vs, h1, h2, e2⟩
   obtain ⟨a, ha, rfl⟩ := r_at hx
   obtain ⟨y, hy⟩ : ∃ y, ws[i]? = some y := ⟨_, List.getElem?_eq_getElem (by have := (List.getElem?_eq_some_iff.mp ha).1; omega)⟩
   obtain ⟨a', q1, q2⟩ := pget pw hy
   rw [ha] at q1
   cases q1
   refine ⟨rfl, yesI ⟨_, rfl, a, y, rfl, SqL.of (e2.at_ q2), hwl y (List.mem_of_getElem? hy), fun H3 v cv e3 => ?_⟩⟩
   have h1' := e3.at_ h1
   refine ⟨_, h1', szlt ?_, vs ++ [v], uS, ?_, (e2.trans e3).put_new hD⟩
   ·have := plen h2
    rw [List.length_map, List.length_take] at this
    omega
   ·have e4 : Kp [D] H3 (upd H3 D (.lst (vs ++ [v]))) := .put (.head _) h1' fun _ z => nomatch z
    rw [take_snoc hy, List.map_append]
    exact papp (pkeep h2 fun _ _ z => (z.keep e3).keep e4) (.cons (cv.keep e4) .nil)
  ·rintro H2 ⟨vs, h1, h2, e2⟩
   have et : ws.take (as.map V.ref).length = ws := by rw [List.length_map, hal]; exact List.take_length
   rw [et] at h2
   have hvl : vs.length = ws.length := by have := plen h2; rw [List.length_map] at this; exact this
   refine ⟨_, rfl, D, vs, .none, _, rfl, SqL.of h1, .non, cells_dp h2, rfl, cells_lay _, Nat.zero_le _, _, rfl, ?_⟩
   rw [cells_none]
   cases ec : Vbsgae.cellsOf ws with
   | none =>
    rw [ec] at k
    rw [List.any_eq_true.mpr ⟨none, cellsOf_none ec, rfl⟩]
    exact iteT (iteT (k _ _ rfl e2))
   | some row =>
    rw [ec] at k
    have em := cellsOf_some ec
    rw [em] at h2 ⊢
    rw [show (row.map Option.some).any Option.isNone = false by simp]
    obtain ⟨cs, rfl, pcs⟩ := cells_row h2
    have hrow : RowA H2 D row := ⟨cs, h1, pcs⟩
    have hrlen : row.length ≤ 20 := by rw [cellsOf_len ec]; exact hw20
    refine iteF ⟨_, rfl, D, row, rfl, hrow, hrlen, fun H3 e3 => ⟨_, rfl, ite2 (fun h3 => ?_) (fun h3 => ?_)⟩⟩
    ·have h3' : Vbsgae.rising (row.map fun c => c.price) = false := by simpa using h3
     dsimp only at k
     rw [if_pos h3'] at k
     exact k _ _ rfl (e2.trans e3)
    ·have h3' : ¬ Vbsgae.rising (row.map fun c => c.price) = false := by simpa using h3
     dsimp only at k
     rw [if_neg h3'] at k
     have e23 := e2.trans e3
     have hrow3 := hrow.keep0 e3
     refine ⟨_, rfl, _, .inl ⟨_, SqL.of (e23.at_ hq), rfl⟩, ite2 (fun h4 => ?_) (fun h4 => ?_)⟩
     ·obtain ⟨b0, a, rfl⟩ : ∃ b0 a, b = b0 ++ [a] := by
       rcases List.eq_nil_or_concat b with rfl | ⟨m, x, rfl⟩
       ·cases prs
        cases h4
       ·exact ⟨m, x, by simp⟩
      obtain ⟨rs0, z, rfl, hr0, hz⟩ := psnoc prs
      have hal20 : a.length ≤ 20 := (bg.rows a (by simp)).len
      rw [List.reverse_append] at k
      refine ⟨_, rfl, _, rfl, _, rfl, q, _, _, V.ref z, rfl, rfl, SqL.of (e23.at_ hq), (by rw [List.map_append]; exact atI_last _ _), D, z, row, a, rfl, hrow3, hz.keep0 e23, hrlen, hal20, fun H4 e4 => ⟨_, rfl, ite2 (fun h5 => ?_) (fun h5 => ?_)⟩⟩
      ·have h5' : Vbsgae.under a row = false := by simpa using h5
       have kk : ∀ (H' : Hp) (v : V), RowV H H' v none → Kp [] H H' → Q v H' := by
        have := k
        simp only [List.reverse_cons, List.reverse_nil, List.nil_append, List.singleton_append, h5', topOk, if_true] at this
        exact this
       exact kk _ _ rfl (e23.trans e4)
      ·have h5' : Vbsgae.under a row = true := by simpa using h5
       have kk : ∀ (H' : Hp) (v : V), RowV H H' v (some row) → Kp [] H H' → Q v H' := by
        have := k
        simp only [List.reverse_cons, List.reverse_nil, List.nil_append, List.singleton_append, h5', topOk, Bool.true_eq_false, if_false] at this
        exact this
       exact ⟨_, rfl, kk _ _ ⟨D, rfl, hrow3.keep0 e4, hD⟩ (e23.trans e4)⟩
     ·have hbn : b = [] := by
       cases b with
       | nil => rfl
       | cons a r =>
        cases prs with
        | cons _ _ => exact absurd rfl h4
      subst hbn
      have kk : ∀ (H' : Hp) (v : V), RowV H H' v (some row) → Kp [] H H' → Q v H' := by
       have := k
       simp only [List.reverse_nil, topOk, Bool.true_eq_false, if_false] at this
       exact this
      exact iteF ⟨_, rfl, kk _ _ ⟨D, rfl, hrow3, hD⟩ e23⟩
 refine ⟨_, rfl, q, _, rfl, .inl (SqL.of hq), rfl, _, rfl, ite2 (fun h1 => ?_) (fun h1 => ?_)⟩
 ·have h1' : ((rs.map V.ref).length : Int) = 12 := dI.mp h1
  rw [List.length_map] at h1'
  rw [if_pos (.inl (by omega))] at k
  exact iteT (k _ _ rfl (.refl _ _))
 ·have h1' : ¬ ((rs.map V.ref).length : Int) = 12 := fun e => h1 (dI.mpr e)
  rw [List.length_map] at h1'
  refine ⟨_, rfl, p, _, rfl, .inl (SqL.of hp), _, _, rfl, rfl, _, rfl, ite2 (fun h2 => ?_) (fun h2 => ?_)⟩
  ·have h2' : (20 : Int) < ((as.map V.ref).length : Int) := dT h2
   rw [List.length_map] at h2'
   rw [if_pos (.inr (by omega))] at k
   exact k _ _ rfl (.refl _ _)
  ·have h2' : ¬ (20 : Int) < ((as.map V.ref).length : Int) := dF h2
   rw [List.length_map] at h2'
   exact fin (by omega)
end
end Pb
namespace Pb
open PySem PySem.Spec PyProof.Rows L2 Vb
open Vbsgae (Cell Board Marker Table State)
section
variable (P : Program) (w : World) {K : W.Frag} {mg : Str → Option Value} (base : Heap) {A : Adr}
theorem okzE (T : Txt K mg A) : FnOk P w K mg base CX0 4 A.azE A.dzE ["rows", "line"] (spzE K) := by
 have GzD := okzD P w base T
 have Gzw := okzw P w base T
 have GzC := okzC P w base T
 refine T.fzE.ok (k := 3) sczE (fun vs H Q E h => ?_) (fun cdv Ar outer s H vs Q E hr h => ?_)
 ·obtain ⟨_, _, _, _, _, rfl, _⟩ := h; rfl
 obtain ⟨q, l, xs, rs, b, rfl, hR, bg, hqr, hl, hlen, k⟩ := h
 refine ⟨_, (pQ (ps_if (pt_not (pt_val (pe_call GzD (hr.mono (by decide : 1 ≤ 3)) rfl T.gzD T.fzD.kp T.bzD .nil pass0 (pA (pv 1) pZ)))) (pI (pY pe_bl)) pss_nil)
  (pQ (ps_set (i := 2) sczE.nd rfl (Or.inl rfl) (pe_call Gzw (hr.mono (by decide : 2 ≤ 3)) rfl T.gzw T.fzw.kp T.bzw .nil pass0 (pA (pv 1) pZ)))
  (pQ (ps_if (PW.pt (pw_or (pt_not (pt_truth (pv 2) (fun _ => rfl))) (pw_or1 (pt_cmpR op_eq (pe_ix ix_list (pe_ix ix_list (pv 2) pe_int (fun _ _ => rfl)) pe_int (fun _ _ => rfl)) (pe_glob (v := .int (35)) rfl T.gxo ⟨_, rfl⟩) (nomark _))))) (pI (pY pe_bl)) pss_nil)
  (pQ (ps_set (i := 3) sczE.nd rfl (Or.inl rfl) (pe_call GzC (hr.mono (by decide : 3 ≤ 3)) rfl T.gzC T.fzC.kp T.bzC .nil pass0 (pA (pv 2) (pA (pv 0) pZ))))
  (pQ (ps_if (pt_cmp (pc_isN (pv 3))) (pI (pY pe_bl)) pss_nil)
  (pQ (ps_expr (pe_bm PySem.F.plainAttrs_list PySem.F.slot_list_append PySem.F.type_list_append mt_append (pv 0) (pA (pv 3) pZ)))
  (pI (pY pe_bl)))))))), ?_⟩
 have hlo : lineOf b.reverse xs = if Vbsgae.plain xs = false then none else if passed xs = true then some b.reverse else match rowOf b.reverse (Vbsgae.words xs) with
   | none => none
   | some row => some (row :: b.reverse) := rfl
 refine ⟨_, rfl, l, xs, rfl, hl, hlen, fun H1 e1 => ⟨_, rfl, ite2 (fun h1 => ?_) (fun h1 => ?_)⟩⟩
 ·have h1' : Vbsgae.plain xs = false := by simpa using h1
  rw [if_pos h1'] at hlo
  exact k H1 false (.inl ⟨hlo, rfl⟩) e1.any
 have h1' : ¬ Vbsgae.plain xs = false := by simpa using h1
 rw [if_neg h1'] at hlo
 refine ⟨_, rfl, l, xs, rfl, e1.seq0 hl, hlen, fun H2 p hL e2 => ?_⟩
 obtain ⟨as, hp, pr⟩ := hL
 have e12 := e1.trans e2
 dsimp only [gName]
 refine cut1 fun F hF => ?_
 have pass : passed xs = true → Q (.bl true) H2 := fun h => by
  rw [if_pos h] at hlo
  refine k H2 true (.inr ⟨b.reverse, rs, hlo, rfl, ?_, fun r hr => .inl hr⟩) e12.any
  rw [List.reverse_reverse]
  exact hR.keep0 e12
 have fin : ¬ passed xs = true → F (Ds Q) [some (.ref q), some (.ref l), some (.ref p), none] H2 := by
  intro hn
  subst hF
  rw [if_neg hn] at hlo
  refine ⟨_, rfl, _, rfl, p, q, _, rs, b, rfl, ⟨as, hp, pr⟩, fun w hw => ?_, ?_, hR.keep0 e12, bg, fun H3 v rv e3 => ?_⟩
  ·have := (words_mem hw).2.1
   omega
  ·have := words_len xs
   omega
  have e13 := e12.trans e3
  have hR3 := hR.keep0 e13
  cases er : rowOf b.reverse (Vbsgae.words xs) with
  | none =>
   rw [er] at rv hlo
   have : v = .non := rv
   subst this
   exact ⟨_, rfl, _, rfl, iteT (k H3 false (.inl ⟨hlo, rfl⟩) e13.any)⟩
  | some row =>
   rw [er] at rv hlo
   obtain ⟨a, rfl, hrow, ha⟩ := rv
   refine ⟨_, rfl, _, rfl, iteF ?_⟩
   have hal : rs.length ≤ 12 := by have := plen hR.rows; have := bg.len; omega
   have naq : a ≠ q := (ne_of_none hR.at_ (e12.dom _ ha)).symm
   refine ⟨_, rfl, .inl ⟨rfl, _, SqL.of hR3.at_⟩, _, rfl, q, _, _, rfl, rfl, hR3.at_, szlt (by rw [List.length_map]; omega), ?_⟩
   have e4 : Kp [q] H3 (upd H3 q (.lst (rs.map V.ref ++ [.ref a]))) := .put (.head _) hR3.at_ fun _ z => nomatch z
   refine k _ true (.inr ⟨row :: b.reverse, rs ++ [a], hlo, rfl, ⟨?_, ?_⟩, fun r hr => ?_⟩) (e13.any.trans e4)
   ·rw [uS, List.map_append]
    rfl
   ·rw [List.reverse_cons, List.reverse_reverse]
    refine papp (rows_keep e4 hR3.rows fun r hr z => ?_) (.cons (hrow.keep e4 (by simpa using naq)) .nil)
    have : r = q := by simpa using z
    rw [this] at hr
    exact hqr hr
   ·rcases List.mem_append.mp hr with hr | hr
    ·exact .inl hr
    ·have : r = a := by simpa using hr
     rw [this]
     exact .inr (e12.dom _ ha)
 refine ⟨_, rfl, _, .inl ⟨_, SqL.of hp, rfl⟩, ite2 (fun h2 => ?_) (fun h2 => ?_)⟩
 ·refine iteT (pass ?_)
  have : as = [] := by
   cases as with
   | nil => rfl
   | cons a r => cases h2
  subst this
  cases ew : Vbsgae.words xs with
  | nil => unfold passed; rw [ew]; rfl
  | cons a r => rw [ew] at pr; cases pr
 ·obtain ⟨a0, as', rfl⟩ : ∃ a r, as = a :: r := by
   cases as with
   | nil => exact absurd rfl h2
   | cons a r => exact ⟨a, r, rfl⟩
  obtain ⟨w0, ws, ew⟩ : ∃ w r, Vbsgae.words xs = w :: r := by
   cases ew : Vbsgae.words xs with
   | nil => rw [ew] at pr; cases pr
   | cons a r => exact ⟨a, r, rfl⟩
  have hw0 : w0 ≠ [] := (words_mem (t := xs) (w := w0) (by rw [ew]; exact .head _)).2.2
  obtain ⟨x0, r0, rfl⟩ : ∃ x r, w0 = x :: r := by
   cases w0 with
   | nil => exact absurd rfl hw0
   | cons x r => exact ⟨x, r, rfl⟩
  have ha0 : H2 a0 = some (.lst (nVs (x0 :: r0))) := by
   rw [ew] at pr
   cases pr with
   | cons h _ => exact h
  have hpe : passed xs = decide (x0 = 35) := by
   unfold passed
   rw [ew]
   show (false || (x0 == 35)) = _
   rw [Bool.false_or]
   rfl
  refine ⟨_, rfl, p, _, _, V.ref a0, rfl, rfl, SqL.of hp, at_nat (f := V.ref) (l := a0 :: as') (i := 0) rfl, a0, _, _, nV x0, rfl, rfl, SqL.of ha0, at_nat (f := nV) (l := x0 :: r0) (i := 0) rfl, rfl, _, rfl, ite2 (fun h3 => ?_) (fun h3 => ?_)⟩
  ·have h3' : x0 = 35 := dN.mp h3
   exact pass (by rw [hpe]; exact decide_eq_true h3')
  ·have h3' : ¬ x0 = 35 := fun e => h3 (dN.mpr e)
   exact fin (by rw [hpe]; exact fun e => h3' (of_decide_eq_true e))
theorem good_rev {b : Board} (g : BoardGood b) : BoardGood b.reverse := ⟨by rw [List.length_reverse]; exact g.len, fun r hr => g.rows r (by simpa using hr)⟩
theorem okzF (T : Txt K mg A) : FnOk P w K mg base CX0 5 A.azF A.dzF ["text"] (spzF K A) := by
 have Gzt := okzt P w base T
 have Gzv := okzv P w base T
 have GzE := okzE P w base T
 refine T.fzF.ok (k := 4) sczF (fun vs H Q E h => ?_) (fun cdv Ar outer s H vs Q E hr h => ?_)
 ·obtain ⟨_, _, rfl, _⟩ := h; rfl
 obtain ⟨l, t, rfl, hl, hlen, k⟩ := h
 refine ⟨_, (pQ (ps_set (i := 1) sczF.nd rfl (Or.inl rfl) (pe_make0 T.mkReading Gzt (hr.mono (by decide : 2 ≤ 4)) rfl T.gReading T.bzt .nil pass0))
  (pQ (ps_set (i := 2) sczF.nd rfl (Or.inl rfl) (pe_call Gzv (hr.mono (by decide : 2 ≤ 4)) rfl T.gzv T.fzv.kp T.bzv .nil pass0 (pA (pv 0) pZ)))
  (pQ (ps_for PassesOwn.never rfl (pi_range1 rfl T.nrange (pA (pe_callB call_len_seq (by rfl) T.nlen bt_len (pA (pv 2) pZ)) pZ)) (pg_name (i := 3) sczF.nd rfl (Or.inl rfl)) (pI (ps_if (pt_not (pt_val (pe_call GzE (hr.mono (by decide : 4 ≤ 4)) rfl T.gzE T.fzE.kp T.bzE .nil pass0 (pA (pe_fld (pv 1) rfl) (pA (pe_ix ix_list (pv 2) (pv 3) (fun _ _ => rfl)) pZ))))) (pQ (ps_fld (pv 1) (pe_op op_add (pv 3) pe_int) rfl)
  (pI (pY (pv 1)))) pss_nil)))
  (pQ (ps_if (pt_not (pt_truth (pe_fld (pv 1) rfl) (fun _ => rfl))) (pI (ps_fld (pv 1) (pe_op op_add (pe_callB call_len_seq (by rfl) T.nlen bt_len (pA (pv 2) pZ)) pe_int) rfl)) pss_nil)
  (pI (pY (pv 1))))))), ?_⟩
 intro q dx nq ndq _
 refine ⟨q, dx, rfl, uS, fun H1 w1 hq1 hw1 nw1 kp1 => ⟨rfl, ?_⟩⟩
 have e1 : Kp [] H H1 := .made nq ndq kp1
 have nw : H w1 = none := (upd_none (upd_none nw1).2).2
 refine ⟨_, rfl, l, t, rfl, e1.seq0 hl, by omega, fun H2 p hL e2 => ?_⟩
 obtain ⟨as, hp, pr, np, nas⟩ := hL
 have hal : as.length = (Vbsgae.linesOf t).length := plen pr
 have hll := linesOf_len t
 have e12 := e1.trans e2
 have hq2 := e2.at_ hq1
 have hw2 := e2.at_ hw1
 have npw : p ≠ w1 := (ne_of_none hw1 np).symm
 have nqw : q ≠ w1 := ne_of hq1 hw1 fun z => nomatch z
 have naw : ∀ a ∈ as, a ∉ [w1] := fun a ha z => by
  have : a = w1 := by simpa using z
  rw [this] at ha
  have := nas _ ha
  rw [hw1] at this
  cases this
 have naq : ∀ a ∈ as, a ∉ [q] := fun a ha z => by
  have : a = q := by simpa using z
  rw [this] at ha
  have := nas _ ha
  rw [hq1] at this
  cases this
 have npq : p ≠ q := (ne_of_none hq1 np).symm
 refine ⟨_, rfl, p, _, rfl, .inl (SqL.of hp), _, rfl, by omega, by rw [List.length_map]; omega, ?_⟩
 refine for_range (fun i σ H3 => ∃ (rs : List Addr) (bk : Board) (v : Option V), σ = [some (.ref l), some (.ref q), some (.ref p), v] ∧ RowsA H3 w1 rs bk.reverse ∧ BoardGood bk ∧ w1 ∉ rs ∧ (∀ r ∈ rs, H r = none) ∧ Kp [w1] H2 H3 ∧ Vbsgae.readFrom 1 [] (Vbsgae.linesOf t) = Vbsgae.readFrom (i + 1) bk ((Vbsgae.linesOf t).drop i)) ?_ ?_ ?_
 ·exact ⟨[], [], none, rfl, ⟨hw2, .nil⟩, .nil, by simp, (fun r hr => by cases hr), .refl _ _, rfl⟩
 ·rintro i σ H3 hi ⟨rs, bk, v, rfl, hR, bg, hwr, hrs, e3, hrf⟩
  rw [List.length_map] at hi
  obtain ⟨ln, hln⟩ : ∃ ln, (Vbsgae.linesOf t)[i]? = some ln := ⟨_, List.getElem?_eq_getElem (by omega)⟩
  obtain ⟨a, ha, hal2⟩ := pget pr hln
  have hq3 := e3.kp _ _ hq2 (by simpa using nqw)
  have hp3 := e3.kp _ _ hp (by simpa using npw)
  have ha3 := e3.kp _ _ hal2 (naw a (List.mem_of_getElem? ha))
  have hlm := linesOf_mem (List.mem_of_getElem? hln)
  rw [readFrom_drop hln] at hrf
  refine ⟨_, rfl, q, A.cReading, dx, _, _, rfl, hq3, T.clReading, T.nRr, rfl, _, rfl, _, rfl, p, _, _, V.ref a, rfl, rfl, SqL.of hp3, at_of (j := i) (by omega) (map_get ha), w1, a, ln, rs, bk.reverse, rfl, hR, good_rev bg, hwr, SqL.of ha3, by omega, fun H4 v4 hv e4 => ⟨_, rfl, ?_⟩⟩
  have e24 := e3.trans e4
  have hq4 := e24.kp _ _ hq2 (by simpa using nqw)
  rw [List.reverse_reverse] at hv
  rcases hv with ⟨h1, rfl⟩ | ⟨bk', rs', h1, rfl, hR4, hrs4⟩
  ·rw [h1] at hrf
   refine iteT ⟨_, rfl, _, _, rfl, rfl, _, rfl, q, A.cReading, dx, _, rfl, hq4, T.clReading, T.nRw, fw, _, rfl, ?_⟩
   have er := read_wrong hrf (by show i + 1 ≠ 0; omega)
   rw [er] at k
   have e5 : Kp [] H (upd H4 q (.ins A.cReading dx [("rows", .ref w1), ("wrong", .int (0 + (i : Int) + 1))])) := (Kp.step1 e12 e24 nw).put_new nq
   refine k _ q dx w1 [] ?_ (fun h => absurd (show i + 1 = 0 from h) (by omega)) e5
   rw [uS]
   have : (0 : Int) + (i : Int) + 1 = ((i + 1 : Nat) : Int) := by omega
   show some (HO.ins A.cReading dx [("rows", .ref w1), ("wrong", .int (0 + (i : Int) + 1))]) = _
   rw [this]
  ·rw [h1] at hrf
   refine iteF ⟨rs', bk', _, rfl, hR4, lineOf_good bg h1, fun z => ?_, fun r hr => ?_, e24, hrf⟩
   ·rcases hrs4 _ z with h | h
    ·exact hwr h
    ·rw [hR.at_] at h
     cases h
   ·rcases hrs4 r hr with h | h
    ·exact hrs r h
    ·exact (Kp.step1 e12 e3 nw).dom _ h
 ·rintro σ H3 ⟨rs, bk, v, rfl, hR, bg, hwr, hrs, e3, hrf⟩
  have hnn : ((as.map V.ref).length : Int).toNat = (Vbsgae.linesOf t).length := by rw [List.length_map]; omega
  rw [hnn, List.drop_length, readFrom_nil] at hrf
  have hq3 := e3.kp _ _ hq2 (by simpa using nqw)
  have hp3 := e3.kp _ _ hp (by simpa using npw)
  have e03 := Kp.step1 e12 e3 nw
  refine ⟨_, rfl, q, A.cReading, dx, _, _, rfl, hq3, T.clReading, T.nRr, rfl, _, .inl ⟨_, SqL.of hR.at_, rfl⟩, ?_⟩
  have hrl : rs.length = bk.length := by have := plen hR.rows; rw [List.length_reverse] at this; exact this
  refine ite2 (fun h => ?_) (fun h => ?_)
  ·have hbk : bk = [] := by
    cases rs with
    | nil => exact List.length_eq_zero_iff.mp hrl.symm
    | cons a r => cases h
   have er := read_none hrf rfl hbk
   rw [er] at k
   refine ⟨_, rfl, p, _, rfl, .inl (SqL.of hp3), _, _, rfl, rfl, _, rfl, q, A.cReading, dx, _, rfl, hq3, T.clReading, T.nRw, fw, _, rfl, ?_⟩
   refine k _ q dx w1 [] ?_ (fun h => absurd (show (Vbsgae.linesOf t).length + 1 = 0 from h) (by omega)) (e03.put_new nq)
   rw [uS]
   have : ((as.map V.ref).length : Int) + 1 = (((Vbsgae.linesOf t).length + 1 : Nat) : Int) := by rw [List.length_map]; omega
   show some (HO.ins A.cReading dx [("rows", .ref w1), ("wrong", .int (((as.map V.ref).length : Int) + 1))]) = _
   rw [this]
  ·have hbk : bk ≠ [] := by
    rintro rfl
    have : rs = [] := List.length_eq_zero_iff.mp hrl
    subst this
    exact h rfl
   have er := read_ok hrf rfl hbk
   rw [er] at k
   refine ⟨_, rfl, k _ q dx w1 rs hq3 (fun _ => ⟨hR, fun x hx => ?_⟩) e03⟩
   rcases List.mem_cons.mp hx with rfl | hx
   ·exact nw
   ·exact hrs x hx
theorem lc_str {x : Str} {g : TG} {tt : TT} {te : TE} {vs : List Nat} {σ : L2.St} {H1 : Hp} {D : Addr} {Qd : Hp → Prop} (Pv : Nat → Hp → Prop) (h0 : Pv 0 (upd H1 D (.lst [])))
  (hs : ∀ i c H, x.cps[i]? = some c → Pv i H → g (.str ⟨#[c]⟩) (wipe σ vs) H fun σ2 H2 => wipe σ2 vs = wipe σ vs ∧ tt σ2 H2 fun b H3 =>
   if b = true then te σ2 H3 fun y H4 => ∃ acc, H4 D = some (.lst acc) ∧ acc.length < sizeLine ∧ Pv (i + 1) (upd H4 D (.lst (acc ++ [y]))) else Pv (i + 1) H3) (hd : ∀ H, Pv x.cps.size H → Qd H) :
  ∃ W : Nat → Nat → Hp → Prop, (∃ m, W 0 m (upd H1 D (.lst []))) ∧ ∀ i m H, W i m H →
   ((Its x).stop i H ∧ Qd H) ∨ ((Its x).go i H ∧ ∃ Nx : Hp → Prop, (∀ H', Nx H' → ∃ m', m' < m ∧ W (i + 1) m' H') ∧ ∀ z H', (Its x).yld i H z H' → g z (wipe σ vs) H' fun σ2 H2 => wipe σ2 vs = wipe σ vs ∧ tt σ2 H2 fun b H3 =>
    if b = true then te σ2 H3 fun y H4 => ∃ acc, H4 D = some (.lst acc) ∧ acc.length < sizeLine ∧ Nx (upd H4 D (.lst (acc ++ [y]))) else Nx H3) := by
 refine ⟨fun i m H => m = x.cps.size - i ∧ i ≤ x.cps.size ∧ Pv i H, ⟨x.cps.size, by simp, Nat.zero_le _, h0⟩, ?_⟩
 rintro i m H ⟨rfl, hi, p⟩
 by_cases hlt : i < x.cps.size
 ·refine .inr ⟨hlt, Pv (i + 1), fun H' p' => ⟨x.cps.size - (i + 1), by omega, rfl, hlt, p'⟩, fun z H' y => ?_⟩
  obtain ⟨e, c, hc, rfl⟩ := y
  subst e
  exact hs i c _ hc p
 ·have e : i = x.cps.size := by omega
  subst e
  exact .inl ⟨Nat.le_refl _, hd H p⟩
theorem num_dec {n : Nat} (h : n ≤ 10000) : (Str.ofString (toString ((n : Nat) : Int))).cps.toList = Vbsgae.decimal n := by
 have e := TL.tl_num n
 rw [decimal_unique TL.numL (fun n h => TL.numL_lt h) (fun n h => TL.numL_step h) n (Nat.lt_of_le_of_lt h (by decide))]
 exact e
theorem okzG (T : Txt K mg A) : FnOk P w K mg base CX0 1 A.azG A.dzG ["cell"] (spzG) := by
 refine T.fzG.ok (k := 0) sczG (fun vs H Q E h => ?_) (fun cdv Ar outer s H vs Q E hr h => ?_)
 ·obtain ⟨_, _, rfl, _⟩ := h; rfl
 obtain ⟨c, x, rfl, ⟨l, hc, hl⟩, cg, k⟩ := h
 refine ⟨_, (pI (pY (pe_op op_cat (pe_lc (own := [("digit", 1)]) rfl sczG.nd (pi_str (pe_callTy call_str_int (by rfl) T.nstr bt_str (pA (pe_ix ix_tup (pv 0) pe_int (fun _ _ => rfl)) pZ))) (blkOk_by rfl) (by intro s H C cl fp; exact pg_name (i := 1) sczG.nd rfl (Or.inl rfl)) (by intro s H C cl fp; exact pts_nil) (by intro s H C cl fp; exact (pe_callB call_ord (by rfl) T.nord bt_ord (pA (pv 1) pZ)))) (pe_callTy call_list_of (by rfl) T.nlist bt_list (pA (pe_ix ix_tup (pv 0) pe_int (fun _ _ => rfl)) pZ))))), ?_⟩
 have hp1 := cg.p2
 have hdl := decimal_len hp1
 refine ⟨_, rfl, c, _, _, _, rfl, rfl, SqT.of hc, rfl, _, rfl, ?_, _, rfl, fun D hD => ?_⟩
 ·show (x.price : Int).natAbs.log2 < 1920
  have : (x.price : Int).natAbs = x.price := by omega
  rw [this]
  by_cases h0 : x.price = 0
  ·rw [h0]; decide
  ·rw [Nat.log2_lt h0]
   exact Nat.lt_of_le_of_lt hp1 (Nat.lt_of_lt_of_le (by decide : 10000 < 2 ^ 14) (Nat.pow_le_pow_right (by decide) (by decide)))
 have hcp := num_dec hp1
 refine lc_str (fun i H2 => H2 D = some (.lst (nVs ((Vbsgae.decimal x.price).take i))) ∧ Kp [] H H2) ⟨uS, .new hD⟩ ?_ ?_
 ·rintro i d H2 hd ⟨h1, e2⟩
  have hd' : (Vbsgae.decimal x.price)[i]? = some d := by rw [← hcp, Array.getElem?_toList]; exact hd
  refine ⟨rfl, yesI ⟨_, rfl, _, rfl, rfl, _, h1, szlt (by rw [List.length_map, List.length_take]; omega), ?_, e2.put_new hD⟩⟩
  rw [uS, take_snoc hd', nV_app]
  rfl
 ·rintro H2 ⟨h1, e2⟩
  have et : (Vbsgae.decimal x.price).take (Str.ofString (toString ((x.price : Nat) : Int))).cps.size = Vbsgae.decimal x.price := by
   rw [← Array.length_toList, hcp]
   exact List.take_length
  rw [show (Vbsgae.decimal x.price).take _ = Vbsgae.decimal x.price from et] at h1
  refine ⟨_, rfl, c, _, _, _, rfl, rfl, SqT.of (e2.tup _ _ hc), rfl, l, _, rfl, .inr (SqT.of (e2.tup _ _ hl)), fun m hm => ?_⟩
  have e3 : Kp [] H2 (upd H2 m (.lst (nVs x.letters))) := .new hm
  refine ⟨D, m, _, _, rfl, rfl, e3.at_ h1, uS, sz ?_, fun p hp => k _ p ?_ ((e2.trans e3).dom _ hp) ((e2.trans e3).trans (.new hp))⟩
  ·rw [List.length_map, List.length_map]
   have := cg.len
   omega
  ·rw [uS]
   unfold Vbsgae.shownCell
   rw [nV_app]
theorem shown_len {x : Cell} (cg : CellGood x) : (Vbsgae.shownCell x).length ≤ 9 := by
 unfold Vbsgae.shownCell
 rw [List.length_append]
 have := decimal_len cg.p2
 have := cg.len
 omega
theorem joined_few : ∀ {row : List Cell}, (∀ c ∈ row, CellGood c) → ∀ i, (Vbsgae.joined ((row.map Vbsgae.shownCell).take i)).length ≤ 10 * row.length := by
 intro row hg i
 have h1 := joined_len ((row.map Vbsgae.shownCell).take i)
 have key : ∀ (r : List Cell) (i : Nat), (∀ c ∈ r, CellGood c) → ((((r.map Vbsgae.shownCell).take i).map fun w => w.length + 1).sum) ≤ 10 * r.length := by
  intro r
  induction r with
  | nil => intro i _; simp
  | cons c r ih =>
   intro i hg
   cases i with
   | zero => simp
   | succ i =>
    have := ih i fun c hc => hg c (.tail _ hc)
    have := shown_len (hg c (.head _))
    rw [List.map_cons, List.take_succ_cons, List.map_cons, List.sum_cons, List.length_cons]
    omega
 exact Nat.le_trans h1 (key row i hg)
theorem printed_few {b : Board} (g : BoardGood b) : ∀ i, (Vbsgae.printed (b.take i)).length ≤ 2412 := fun i => printed_len ⟨by rw [List.length_take]; have := g.len; omega, fun r hr => g.rows r (List.mem_of_mem_take hr)⟩
theorem okzH (T : Txt K mg A) : FnOk P w K mg base CX0 2 A.azH A.dzH ["rows"] (spzH) := by
 have GzG := okzG P w base T
 refine T.fzH.ok (k := 1) sczH (fun vs H Q E h => ?_) (fun cdv Ar outer s H vs Q E hr h => ?_)
 ·obtain ⟨_, _, _, rfl, _⟩ := h; rfl
 obtain ⟨w1, rs, b, rfl, ⟨hw, prs⟩, bg, k⟩ := h
 refine ⟨_, (pQ (ps_set (i := 1) sczH.nd rfl (Or.inl rfl) (pe_lst pZ))
  (pQ (ps_for PassesOwn.never rfl (pi_list (pv 0)) (pg_name (i := 2) sczH.nd rfl (Or.inl rfl)) (pQ (ps_for PassesOwn.never rfl (pi_range1 rfl T.nrange (pA (pe_callB call_len_seq (by rfl) T.nlen bt_len (pA (pv 2) pZ)) pZ)) (pg_name (i := 3) sczH.nd rfl (Or.inl rfl)) (pQ (ps_if (pt_cmpR op_gt (pv 3) pe_int (nomark _)) (pI (ps_expr (pe_bm PySem.F.plainAttrs_list PySem.F.slot_list_append PySem.F.type_list_append mt_append (pv 1) (pA (pe_glob (v := .int (32)) rfl T.gxm ⟨_, rfl⟩) pZ)))) pss_nil)
  (pI (ps_expr (pe_bm PySem.F.plainAttrs_list PySem.F.slot_list_extend PySem.F.type_list_extend mt_extend (pv 1) (pA (pe_call GzG (hr.mono (by decide : 1 ≤ 1)) rfl T.gzG T.fzG.kp T.bzG .nil pass0 (pA (pe_ix ix_list (pv 2) (pv 3) (fun _ _ => rfl)) pZ)) pZ))))))
  (pI (ps_expr (pe_bm PySem.F.plainAttrs_list PySem.F.slot_list_append PySem.F.type_list_append mt_append (pv 1) (pA (pe_glob (v := .int (10)) rfl T.gxl ⟨_, rfl⟩) pZ))))))
  (pI (pY (pv 1))))), ?_⟩
 have hrl : rs.length = b.length := plen prs
 refine ⟨sz, fun s1 hs1 => ?_⟩
 have e0 : Kp [] H (upd H s1 (.lst [])) := .new hs1
 refine ⟨_, rfl, w1, rfl, ⟨_, SqL.of (e0.at_ hw)⟩, for_list (xs := rs.map V.ref) (fun i σ H1 => ∃ (v2 v3 : Option V), σ = [some (.ref w1), some (.ref s1), v2, v3] ∧ H1 s1 = some (.lst (nVs (Vbsgae.printed (b.take i)))) ∧ Kp [] H H1) ⟨none, none, rfl, uS, e0⟩ ?_ ?_ ?_⟩
 ·rintro i σ H1 _ ⟨v2, v3, rfl, h1, e1⟩
  exact SqL.of (e1.at_ hw)
 ·rintro i x σ H1 hx ⟨v2, v3, rfl, h1, e1⟩
  obtain ⟨r, hr', rfl⟩ := r_at hx
  obtain ⟨row, hrow⟩ : ∃ row, b[i]? = some row := ⟨_, List.getElem?_eq_getElem (by have := (List.getElem?_eq_some_iff.mp hr').1; omega)⟩
  obtain ⟨r', q1, cs, hcs, pc⟩ := pget prs hrow
  rw [hr'] at q1
  cases q1
  have rg := bg.rows row (List.mem_of_getElem? hrow)
  have hcl : cs.length = row.length := plen pc
  have hrl20 := rg.len
  have hpf := printed_few bg i
  have hjf := joined_few rg.cells
  refine ⟨_, rfl, r, _, rfl, .inl (SqL.of (e1.at_ hcs)), _, rfl, by omega, by rw [List.length_map]; omega, ?_⟩
  refine for_range (fun j σ H2 => ∃ (v3 : Option V), σ = [some (.ref w1), some (.ref s1), some (.ref r), v3] ∧ H2 s1 = some (.lst (nVs (Vbsgae.printed (b.take i) ++ Vbsgae.joined ((row.map Vbsgae.shownCell).take j)))) ∧ Kp [] H H2) ?_ ?_ ?_
  ·refine ⟨v3, rfl, ?_, e1⟩
   rw [h1]
   simp [Vbsgae.joined]
  ·rintro j σ H2 hj ⟨v3', rfl, h2, e2⟩
   rw [List.length_map] at hj
   obtain ⟨c, hc⟩ : ∃ c, row[j]? = some c := ⟨_, List.getElem?_eq_getElem (by omega)⟩
   obtain ⟨ca, hca, hcell⟩ := pget pc hc
   have hjt := joined_take (l := row.map Vbsgae.shownCell) (map_get hc)
   have hjl := hjf j
   have hsl := shown_len (rg.cells c (List.mem_of_getElem? hc))
   dsimp only [gName]
   refine cut1 fun F hF => ?_
   have fin : ∀ D : Ends, (∀ (v3 : Option V) (H2 : Hp), H2 s1 = some (.lst (nVs (Vbsgae.printed (b.take i) ++ Vbsgae.joined ((row.map Vbsgae.shownCell).take (j + 1))))) → Kp [] H H2 → D.nx [some (.ref w1), some (.ref s1), some (.ref r), v3] H2) →
     ∀ (H3 : Hp) (xs : List Nat), H3 s1 = some (.lst (nVs xs)) → xs.length ≤ 3000 → Kp [] H H3 → xs ++ Vbsgae.shownCell c = Vbsgae.printed (b.take i) ++ Vbsgae.joined ((row.map Vbsgae.shownCell).take (j + 1)) →
     F D [some (.ref w1), some (.ref s1), some (.ref r), some (.int (0 + (j : Int)))] H3 := by
    intro D hD H3 xs h3 hxl e3 hxs
    subst hF
    refine ⟨_, rfl, .inl ⟨rfl, _, SqL.of h3⟩, _, rfl, _, rfl, r, _, _, V.ref ca, rfl, rfl, SqL.of (e3.at_ hcs), at_of (j := j) (by omega) (map_get hca), ca, c, rfl, hcell.keep e3, rg.cells c (List.mem_of_getElem? hc), fun H4 p hp np e4 => ?_⟩
    have h4 := e4.at_ h3
    refine ⟨s1, p, _, _, rfl, rfl, h4, hp, sz (by rw [List.length_map, List.length_map]; omega), hD _ _ ?_ ((e3.trans e4).put_new hs1)⟩
    rw [uS, ← hxs, nV_app]
   refine ⟨_, rfl, _, _, rfl, rfl, _, rfl, ite2 (fun hq => ?_) (fun hq => ?_)⟩
   ·have hq' : (0 : Int) < 0 + (j : Int) := dT hq
    rw [if_pos (by omega)] at hjt
    refine ⟨_, rfl, .inl ⟨rfl, _, SqL.of h2⟩, s1, _, _, rfl, rfl, h2, szlt (by rw [List.length_map, List.length_append]; omega), ?_⟩
    refine fin _ ?hD _ (Vbsgae.printed (b.take i) ++ Vbsgae.joined ((row.map Vbsgae.shownCell).take j) ++ [32]) ?_ ?_ (e2.put_new hs1) ?_
    case hD => exact fun v3 H2 a b => ⟨v3, rfl, a, b⟩
    ·rw [uS]
     exact congrArg (fun z => some (HO.lst z)) (nV_app (Vbsgae.printed (b.take i) ++ Vbsgae.joined ((row.map Vbsgae.shownCell).take j)) [32]).symm
    ·rw [List.length_append, List.length_append, List.length_singleton]
     omega
    ·rw [hjt, List.append_assoc, List.append_assoc]
   ·have hq' : ¬ (0 : Int) < 0 + (j : Int) := dF hq
    rw [if_neg (by omega)] at hjt
    refine fin _ ?hD _ (Vbsgae.printed (b.take i) ++ Vbsgae.joined ((row.map Vbsgae.shownCell).take j)) h2 ?_ e2 ?_
    case hD => exact fun v3 H2 a b => ⟨v3, rfl, a, b⟩
    ·rw [List.length_append]
     omega
    ·rw [hjt, List.append_assoc, List.nil_append]
  ·rintro σ H2 ⟨v3', rfl, h2, e2⟩
   have et : (row.map Vbsgae.shownCell).take ((cs.map V.ref).length : Int).toNat = row.map Vbsgae.shownCell := by
    rw [List.take_of_length_le]
    rw [List.length_map, List.length_map]
    omega
   rw [et] at h2
   have hjl := hjf row.length
   rw [List.take_of_length_le (by rw [List.length_map]; exact Nat.le_refl _)] at hjl
   refine ⟨_, rfl, .inl ⟨rfl, _, SqL.of h2⟩, s1, _, _, rfl, rfl, h2, szlt (by rw [List.length_map, List.length_append]; omega), _, _, rfl, ?_, e2.put_new hs1⟩
   rw [uS, printed_take hrow, ← List.append_assoc]
   exact congrArg (fun z => some (HO.lst z)) (nV_app (Vbsgae.printed (b.take i) ++ Vbsgae.joined (row.map Vbsgae.shownCell)) [10]).symm
 ·rintro σ H1 ⟨v2, v3, rfl, h1, e1⟩
  have et : b.take (rs.map V.ref).length = b := by rw [List.length_map, hrl]; exact List.take_length
  rw [et] at h1
  exact ⟨_, rfl, k _ s1 h1 e1⟩
end
end Pb
namespace Pb
open PySem PySem.Spec PyProof.Rows L2 Vb
open Vbsgae (Cell Board Marker Table State)
section
variable (P : Program) (w : World) {K : W.Frag} {mg : Str → Option Value} (base : Heap) {A : Adr}
theorem ReaderA.keep0 {H H' : Hp} {r a : Addr} {i : Nat} (h : ReaderA A H r a i) (e : Kp [] H H') : ReaderA A H' r a i := let ⟨dx, q⟩ := h; ⟨dx, e.at_ q⟩
theorem ReaderA.keep {H H' : Hp} {S : List Addr} {r a : Addr} {i : Nat} (h : ReaderA A H r a i) (e : Kp S H H') (n : r ∉ S) : ReaderA A H' r a i := let ⟨dx, q⟩ := h; ⟨dx, e.kp _ _ q n⟩
theorem CallsA.keep0 {H H' : Hp} {a : Addr} {ns : List Int} (h : CallsA K H a ns) (e : Kp [] H H') : CallsA K H' a ns := h.keep e fun b hb => by cases hb
theorem CallsA.keepR {H H' : Hp} {r a a' : Addr} {i : Nat} {ns : List Int} (h : CallsA K H a ns) (e : Kp [r] H H') (hr : ReaderA A H r a' i) : CallsA K H' a ns := h.keep e fun b hb o u q => by
 have : b = r := by simpa using hb
 subst this
 obtain ⟨dx, hr⟩ := hr
 rw [hr] at q
 cases q
theorem okzI (T : Txt K mg A) : FnOk P w K mg base CX0 1 A.azI A.dzI ["self", "calls"] (spzI A) := by
 refine T.fzI.ok (k := 0) sczI (fun vs H Q E h => ?_) (fun cdv Ar outer s H vs Q E hr h => ?_)
 ·obtain ⟨_, _, _, rfl, _⟩ := h; rfl
 obtain ⟨r, dx, a, rfl, h, k⟩ := h
 refine ⟨_, (pQ (ps_fld (pv 0) (pv 1) rfl)
  (pI (ps_fld (pv 0) pe_int rfl))), ?_⟩
 refine ⟨_, rfl, _, rfl, r, A.cReader, dx, _, rfl, h, T.clReader, T.nRc, fw, _, rfl, r, A.cReader, dx, _, rfl, uS, T.clReader, T.nRp, fw, ?_⟩
 exact k _ ⟨dx, uS⟩ ((Kp.put (.head _) h fun _ z => nomatch z).trans (.put (.head _) uS fun _ z => nomatch z))
theorem okzJ (T : Txt K mg A) : FnOk P w K mg base CX0 1 A.azJ A.dzJ ["self"] (spzJ K A) := by
 refine T.fzJ.ok (k := 0) sczJ (fun vs H Q E h => ?_) (fun cdv Ar outer s H vs Q E hr h => ?_)
 ·obtain ⟨_, _, _, _, rfl, _⟩ := h; rfl
 obtain ⟨r, a, ns, i, rfl, ⟨dx, h⟩, hc, k⟩ := h
 refine ⟨_, (pI (pY (pe_cmpR op_lt (pe_fld (pv 0) rfl) (pe_callB call_len_seq (by rfl) T.nlen bt_len (pA (pe_fld (pv 0) rfl) pZ)) (nomark _)))), ?_⟩
 refine ⟨_, rfl, r, A.cReader, dx, _, _, rfl, h, T.clReader, T.nRp, rfl, _, rfl, r, A.cReader, dx, _, _, rfl, h, T.clReader, T.nRc, rfl, a, _, rfl, .inl hc.seq, _, _, rfl, rfl, ?_⟩
 rw [List.length_map]
 exact k
theorem okzK (T : Txt K mg A) : FnOk P w K mg base CX0 1 A.azK A.dzK ["self"] (spzK K A) := by
 refine T.fzK.ok (k := 0) sczK (fun vs H Q E h => ?_) (fun cdv Ar outer s H vs Q E hr h => ?_)
 ·obtain ⟨_, _, _, _, _, rfl, _⟩ := h; rfl
 obtain ⟨r, a, ns, i, z, rfl, ⟨dx, h⟩, hc, hz, k⟩ := h
 refine ⟨_, (pQ (ps_set (i := 1) sczK.nd rfl (Or.inl rfl) (pe_ix ix_list (pe_fld (pv 0) rfl) (pe_fld (pv 0) rfl) (fun _ _ => rfl)))
  (pQ (ps_fldaug (pv 0) pe_int in_add)
  (pI (pY (pv 1))))), ?_⟩
 refine ⟨_, rfl, r, A.cReader, dx, _, _, rfl, h, T.clReader, T.nRc, rfl, _, rfl, r, A.cReader, dx, _, _, rfl, h, T.clReader, T.nRp, rfl, a, _, _, _, rfl, rfl, hc.seq, at_nat hz, ?_⟩
 refine ⟨_, rfl, r, A.cReader, dx, _, _, rfl, h, T.clReader, T.nRp, rfl, _, _, rfl, rfl, _, _, h, fw, _, rfl, ?_⟩
 exact k _ ⟨dx, uS⟩ (.put (.head _) h fun _ z => nomatch z)
theorem okzL (T : Txt K mg A) : FnOk P w K mg base CX0 2 A.azL A.dzL ["self"] (spzL K A) := by
 have GzK := okzK P w base T
 refine T.fzL.ok (k := 1) sczL (fun vs H Q E h => ?_) (fun cdv Ar outer s H vs Q E hr h => ?_)
 ·obtain ⟨_, _, _, _, _, _, rfl, _⟩ := h; rfl
 obtain ⟨r, a, ns, i, z, y, rfl, h, hc, hz, hy, k⟩ := h
 refine ⟨_, (pQ (ps_set (i := 1) sczL.nd rfl (Or.inl rfl) (pe_meth0 (pv 0) T.clReader T.mzK GzK (hr.mono (by decide : 1 ≤ 1)) T.bzK .nil pass0))
  (pQ (ps_set (i := 2) sczL.nd rfl (Or.inl rfl) (pe_meth0 (pv 0) T.clReader T.mzK GzK (hr.mono (by decide : 1 ≤ 1)) T.bzK .nil pass0))
  (pI (pY (pe_tup (pA (pv 1) (pA (pv 2) pZ))))))), ?_⟩
 obtain ⟨dx, h'⟩ := h
 refine ⟨_, rfl, r, dx, _, rfl, h', rfl, r, a, ns, i, z, rfl, ⟨dx, h'⟩, hc, hz, fun H1 h1 e1 => ?_⟩
 have hc1 := hc.keepR e1 ⟨dx, h'⟩
 obtain ⟨dx1, h1'⟩ := h1
 refine ⟨_, rfl, r, dx1, _, rfl, h1', rfl, r, a, ns, i + 1, y, rfl, ⟨dx1, h1'⟩, hc1, hy, fun H2 h2 e2 => ?_⟩
 refine ⟨_, rfl, _, rfl, sz, fun p hp => k _ p uS (h2.keep0 (.new hp)) ((e1.trans e2).trans (.new hp))⟩
theorem okzM (T : Txt K mg A) : FnOk P w K mg base CX0 2 A.azM A.dzM ["self"] (spzM K A) := by
 have GzK := okzK P w base T
 refine T.fzM.ok (k := 1) sczM (fun vs H Q E h => ?_) (fun cdv Ar outer s H vs Q E hr h => ?_)
 ·obtain ⟨_, _, _, _, _, _, rfl, _⟩ := h; rfl
 obtain ⟨r, a, ns, i, z, r2, rfl, h, hc, hd, h0, hz, k⟩ := h
 refine ⟨_, (pQ (ps_set (i := 1) sczM.nd rfl (Or.inl rfl) (pe_meth0 (pv 0) T.clReader T.mzK GzK (hr.mono (by decide : 1 ≤ 1)) T.bzK .nil pass0))
  (pQ (ps_set (i := 2) sczM.nd rfl (Or.inl rfl) (pe_slice sl_list (pe_fld (pv 0) rfl) (po_some (pe_fld (pv 0) rfl)) (po_some (pe_op op_add (pe_fld (pv 0) rfl) (pv 1)))))
  (pQ (ps_fldaug (pv 0) (pv 1) in_add)
  (pI (pY (pv 2)))))), ?_⟩
 obtain ⟨dx, h'⟩ := h
 have hi : ns[i]? = some z := by
  have := congrArg (fun l => l[0]?) hd
  simpa using this
 have hd1 : ns.drop (i + 1) = r2 := by
  have := drop_snoc hi
  rw [hd] at this
  injection this with _ e
  exact e.symm
 have hil : i + 1 + r2.length = ns.length := by
  have h1 := congrArg List.length hd
  rw [List.length_drop, List.length_cons] at h1
  have := (List.getElem?_eq_some_iff.mp hi).1
  omega
 refine ⟨_, rfl, r, dx, _, rfl, h', rfl, r, a, ns, i, z, rfl, ⟨dx, h'⟩, hc, hi, fun H1 h1 e1 => ?_⟩
 have hc1 := hc.keepR e1 ⟨dx, h'⟩
 obtain ⟨dx1, h1'⟩ := h1
 refine ⟨_, rfl, r, A.cReader, dx1, _, _, rfl, h1', T.clReader, T.nRc, rfl, _, rfl, r, A.cReader, dx1, _, _, rfl, h1', T.clReader, T.nRp, rfl, _, rfl, _, rfl, r, A.cReader, dx1, _, _, rfl, h1', T.clReader, T.nRp, rfl, _, rfl, _, _, rfl, rfl, _, rfl, a, _, rfl, hc1.seq, fun p hp => ?_⟩
 have ec : cutV (iVs ns) (some ((i + 1 : Nat) : Int)) (some (((i + 1 : Nat) : Int) + z)) = iVs (r2.take z.toNat) := by
  have ez : (((i + 1 : Nat) : Int) + z) = ((i + 1 + z.toNat : Nat) : Int) := by omega
  unfold cutV
  rw [ez, HT.sIx_nat, HT.sIx_nat, List.length_map, Nat.min_eq_left (by omega), Nat.min_eq_left (by omega)]
  rw [show i + 1 + z.toNat - (i + 1) = z.toNat by omega, ← hd1]
  show List.take _ (List.drop _ (ns.map V.int)) = (List.take _ (List.drop _ ns)).map V.int
  rw [← List.map_drop, ← List.map_take]
 rw [ec]
 have hrp : r ≠ p := ne_of_none h1' hp
 have h2 := (uN (o := .lst (iVs (r2.take z.toNat))) hrp).trans h1'
 have e2 : Kp [r] H (upd H1 p (.lst (iVs (r2.take z.toNat)))) := e1.trans (.new hp)
 refine ⟨_, rfl, r, A.cReader, dx1, _, _, rfl, h2, T.clReader, T.nRp, rfl, _, rfl, _, _, rfl, rfl, _, _, h2, fw, _, rfl, ?_⟩
 refine k _ p ((uN hrp.symm).trans uS) (e1.dom _ hp) ⟨dx1, ?_⟩ (e2.trans (.put (.head _) h2 fun _ z => nomatch z))
 rw [uS]
 have ez : (((i + 1 : Nat) : Int) + z) = ((i + 1 + z.toNat : Nat) : Int) := by omega
 show some (HO.ins A.cReader dx1 [("calls", .ref a), ("position", .int (((i + 1 : Nat) : Int) + z))]) = _
 rw [ez]
theorem okzN (T : Txt K mg A) : FnOk P w K mg base CX0 1 A.azN A.dzN ["numbers"] (spzN K) := by
 refine T.fzN.ok (k := 0) sczN (fun vs H Q E h => ?_) (fun cdv Ar outer s H vs Q E hr h => ?_)
 ·obtain ⟨_, _, rfl, _⟩ := h; rfl
 obtain ⟨p, xs, rfl, hs, hl, k⟩ := h
 refine ⟨_, (pI (pY (pe_op op_cat (pe_lst (pA (pe_callB call_len_seq (by rfl) T.nlen bt_len (pA (pv 0) pZ)) pZ)) (pe_callTy call_list_of (by rfl) T.nlist bt_list (pA (pv 0) pZ))))), ?_⟩
 refine ⟨_, rfl, p, _, rfl, hs, sz, fun q hq => ?_⟩
 have e1 : Kp [] H (upd H q (.lst [.int (xs.length : Nat)])) := .new hq
 have hs1 : SqL K (upd H q (.lst [.int (xs.length : Nat)])) p xs ∨ SqT K (upd H q (.lst [.int (xs.length : Nat)])) p xs := hs.imp e1.seq0 (e1.seqT (by simp))
 refine ⟨_, rfl, p, _, rfl, hs1, fun m hm => ?_⟩
 have e2 := e1.trans (.new (p := m) (o := .lst xs) hm)
 have nqm : q ≠ m := ne_of_none uS hm
 refine ⟨q, m, _, _, rfl, rfl, (uN nqm).trans uS, uS, sz (by show 1 + xs.length ≤ _; omega), fun n hn => ?_⟩
 exact k _ n uS (e2.dom _ hn) (e2.trans (.new hn))
theorem okzO (T : Txt K mg A) : FnOk P w K mg base CX0 1 A.azO A.dzO ["game", "company"] (spzO A) := by
 refine T.fzO.ok (k := 0) sczO (fun vs H Q E h => ?_) (fun cdv Ar outer s H vs Q E hr h => ?_)
 ·obtain ⟨_, _, _, _, _, _, _, rfl, _⟩ := h; rfl
 obtain ⟨g, gr, ps, x, t, kvs, z, rfl, ⟨dg, hg⟩, ⟨⟨dm, hm⟩, hp, hkv, hcl⟩, k⟩ := h
 refine ⟨_, (pI (pY (pe_cmp (pc_din (by exact hu_of hr) (pv 1) (pe_fld (pe_fld (pv 0) rfl) rfl))))), ?_⟩
 refine ⟨_, rfl, _, rfl, g, A.cGame, dg, _, _, rfl, hg, T.clGame, T.nGm, rfl, x.m, A.cMarkers, dm, _, _, rfl, hm, T.clMarkers, T.nMp, rfl, x.pl, _, rfl, .inl ⟨kvs, Sum.inl z, hp, rfl, rfl⟩, k⟩
theorem okzP (T : Txt K mg A) : FnOk P w K mg base CX0 2 A.azP A.dzP ["game", "company"] (spzP A) := by
 have Gzd := okzd P w base T
 refine T.fzP.ok (k := 1) sczP (fun vs H Q E h => ?_) (fun cdv Ar outer s H vs Q E hr h => ?_)
 ·obtain ⟨_, _, _, _, _, _, _, _, _, _, _, _, rfl, _⟩ := h; rfl
 obtain ⟨g, gr, ps, w', rs, b, x, t, kvs, z, a, p, rfl, ⟨dg, hg⟩, ⟨⟨dm, hm⟩, hp, hkv, hcl⟩, hG, hv, ha, hpb, k⟩ := h
 refine ⟨_, (pI (pY (pe_meth (pe_fld (pv 0) rfl) T.clGrid T.mzd Gzd (hr.mono (by decide : 1 ≤ 1)) T.bzd .nil pass0 (pA (pe_dget (by exact hu_of hr) (pe_fld (pe_fld (pv 0) rfl) rfl) (pv 1) (fun _ _ => rfl)) pZ)))), ?_⟩
 have hins := hG.ins
 obtain ⟨dgr, hgr⟩ := hins
 refine ⟨_, rfl, g, A.cGame, dg, _, _, rfl, hg, T.clGame, T.nGg, rfl, gr, dgr, _, rfl, hgr, rfl, _, rfl, g, A.cGame, dg, _, _, rfl, hg, T.clGame, T.nGm, rfl, x.m, A.cMarkers, dm, _, _, rfl, hm, T.clMarkers, T.nMp, rfl, _, rfl, x.pl, _, rfl, .inl ⟨kvs, Sum.inl z, hp, rfl, hv.symm⟩, gr, w', rs, b, a, p, rfl, hG, ha, hpb, k⟩
theorem okzQ (T : Txt K mg A) : FnOk P w K mg base CX0 1 A.azQ A.dzQ ["numbers"] (spzQ K) := by
 refine T.fzQ.ok (k := 0) sczQ (fun vs H Q E h => ?_) (fun cdv Ar outer s H vs Q E hr h => ?_)
 ·obtain ⟨_, _, rfl, _⟩ := h; rfl
 obtain ⟨l, ns, rfl, hl, hlen, k⟩ := h
 refine ⟨_, (pI (pY (pe_and (pe_cmpR op_le (pe_callB call_len_seq (by rfl) T.nlen bt_len (pA (pv 0) pZ)) (pe_glob (v := .int (60)) rfl T.gxH ⟨_, rfl⟩) (nomark _)) (pe_one (pe_callB (cr_all rfl) (by rfl) T.nall bt_all (pA (pe_lc (own := [("number", 1)]) rfl sczQ.nd (pi_list (pv 0)) (blkOk_by rfl) (by intro s H C cl fp; exact pg_name (i := 1) sczQ.nd rfl (Or.inl rfl)) (by intro s H C cl fp; exact pts_nil) (by intro s H C cl fp; exact (pe_cmpR (op_in_seqK (K := K) rfl) (pv 1) (pe_glob (v := .ref A.axe) rfl T.gxe rfl) rfl))) pZ)))))), ?_⟩
 have hdef : Vbsgae.areMoves ns = (decide (ns.length ≤ 60) && ns.all fun n => decide (n ∈ ([1, 2, 3, 4] : List Int))) := by
  unfold Vbsgae.areMoves
  congr 1
  congr 1
  funext n
  unfold Vbsgae.between
  rw [← Bool.decide_and]
  refine decide_eq_decide.mpr ?_
  simp only [List.mem_cons, List.not_mem_nil, or_false]
  omega
 rw [hdef] at k
 refine ⟨_, rfl, l, _, rfl, .inl hl, _, _, rfl, rfl, _, rfl, ite2 (fun h0 => ?_) (fun h0 => ?_)⟩
 ·have h0' : ((iVs ns).length : Int) ≤ 60 := dT h0
  rw [List.length_map] at h0'
  rw [decide_eq_true (show ns.length ≤ 60 by omega)] at k
  refine ⟨_, rfl, l, rfl, ⟨_, hl⟩, fun D hD => ?_⟩
  refine lc_list (xs := iVs ns) (fun i H2 => H2 D = some (.lst (((ns.take i).map fun n => decide (n ∈ ([1, 2, 3, 4] : List Int))).map V.bl)) ∧ Kp [] H H2) ⟨uS, .new hD⟩ ?_ ?_ ?_
  ·rintro i H2 _ ⟨h1, e2⟩
   exact e2.seq0 hl
  ·rintro i x H2 hx ⟨h1, e2⟩
   obtain ⟨c, hc, rfl⟩ := i_at hx
   have hi := (List.getElem?_eq_some_iff.mp hc).1
   refine ⟨rfl, yesI ⟨_, rfl, A.axe, iVs [1, 2, 3, 4], rfl, .inr (T.txe _), rfl, rfl, _, h1, szlt (by rw [List.length_map, List.length_map, List.length_take]; omega), ?_, e2.put_new hD⟩⟩
   rw [uS, take_snoc hc, List.map_append, List.map_cons, List.map_nil, bl_app, ← inV_i c [1, 2, 3, 4]]
   rfl
  ·rintro H2 ⟨h1, e2⟩
   have : ns.take (iVs ns).length = ns := by rw [List.length_map]; exact List.take_length
   rw [this] at h1
   refine ⟨D, _, rfl, SqL.of h1, ?_⟩
   rw [List.all_map]
   exact k _ e2
 ·have h0' : ¬ ((iVs ns).length : Int) ≤ 60 := dF h0
  rw [List.length_map] at h0'
  rw [decide_eq_false (show ¬ ns.length ≤ 60 by omega)] at k
  exact k _ (.refl _ _)
theorem okzR (T : Txt K mg A) : FnOk P w K mg base CX0 1 A.azR A.dzR ["numbers"] (spzR K) := by
 refine T.fzR.ok (k := 0) sczR (fun vs H Q E h => ?_) (fun cdv Ar outer s H vs Q E hr h => ?_)
 ·obtain ⟨_, _, rfl, _⟩ := h; rfl
 obtain ⟨l, ns, rfl, hl, hlen, k⟩ := h
 refine ⟨_, (pI (pY (pe_and (pe_cmpR op_eq (pe_callB call_len_seq (by rfl) T.nlen bt_len (pA (pv 0) pZ)) (pe_glob (v := .int (8)) rfl T.gxD ⟨_, rfl⟩) (nomark _)) (pe_one (pe_callB (cr_all rfl) (by rfl) T.nall bt_all (pA (pe_lc (own := [("number", 1)]) rfl sczR.nd (pi_list (pv 0)) (blkOk_by rfl) (by intro s H C cl fp; exact pg_name (i := 1) sczR.nd rfl (Or.inl rfl)) (by intro s H C cl fp; exact pts_nil) (by intro s H C cl fp; exact (pe_chain op_le op_le pe_int (pv 1) (pe_glob (v := .int (1000000)) rfl T.gxI ⟨_, rfl⟩)))) pZ)))))), ?_⟩
 refine ⟨_, rfl, l, _, rfl, .inl hl, rfl, _, rfl, ite2 (fun h0 => ?_) (fun h0 => ?_)⟩
 ·have h0' : ((iVs ns).length : Int) = 8 := dI.mp h0
  rw [List.length_map] at h0'
  rw [decide_eq_true (show ns.length = 8 by omega)] at k
  refine ⟨_, rfl, l, rfl, ⟨_, hl⟩, fun D hD => ?_⟩
  refine lc_list (xs := iVs ns) (fun i H2 => H2 D = some (.lst (((ns.take i).map fun n => Vbsgae.between 0 n 1000000).map V.bl)) ∧ Kp [] H H2) ⟨uS, .new hD⟩ ?_ ?_ ?_
  ·rintro i H2 _ ⟨h1, e2⟩
   exact e2.seq0 hl
  ·rintro i x H2 hx ⟨h1, e2⟩
   obtain ⟨c, hc, rfl⟩ := i_at hx
   have hi := (List.getElem?_eq_some_iff.mp hc).1
   have fin : ∀ y, y = V.bl (Vbsgae.between 0 c 1000000) → ∃ acc, H2 D = some (.lst acc) ∧ acc.length < sizeLine ∧ (upd H2 D (.lst (acc ++ [y])) D = some (.lst (((ns.take (i + 1)).map fun n => Vbsgae.between 0 n 1000000).map V.bl)) ∧ Kp [] H (upd H2 D (.lst (acc ++ [y])))) := by
    rintro y rfl
    refine ⟨_, h1, szlt (by rw [List.length_map, List.length_map, List.length_take]; omega), ?_, e2.put_new hD⟩
    rw [uS, take_snoc hc, List.map_append, List.map_cons, List.map_nil, bl_app]
   refine ⟨rfl, yesI ⟨_, rfl, _, _, rfl, rfl, _, rfl, ite2 (fun h => ?_) (fun h => ?_)⟩⟩
   ·refine ⟨_, _, rfl, rfl, fin _ ?_⟩
    unfold Vbsgae.between
    rw [h]
    rfl
   ·refine fin _ ?_
    unfold Vbsgae.between
    rw [show decide ((0 : Int) ≤ c) = false by simpa using h]
    rfl
  ·rintro H2 ⟨h1, e2⟩
   have : ns.take (iVs ns).length = ns := by rw [List.length_map]; exact List.take_length
   rw [this] at h1
   refine ⟨D, _, rfl, SqL.of h1, ?_⟩
   rw [List.all_map]
   exact k _ e2
 ·have h0' : ¬ ((iVs ns).length : Int) = 8 := fun e => h0 (dI.mpr e)
  rw [List.length_map] at h0'
  rw [decide_eq_false (show ¬ ns.length = 8 by omega)] at k
  exact k _ (.refl _ _)
theorem areMoves_ok {ns : List Int} (h : Vbsgae.areMoves ns = true) : iVs ns = nVs (Vbsgae.nats ns) ∧ okMs (Vbsgae.nats ns) := by
 unfold Vbsgae.areMoves at h
 rw [Bool.and_eq_true] at h
 have hm : ∀ n ∈ ns, 1 ≤ n ∧ n ≤ 4 := fun n hn => by
  have := List.all_eq_true.mp h.2 n hn
  unfold Vbsgae.between at this
  rw [Bool.and_eq_true] at this
  exact ⟨of_decide_eq_true this.1, of_decide_eq_true this.2⟩
 refine ⟨?_, fun m hm' => ?_⟩
 ·show ns.map V.int = (ns.map Int.toNat).map nV
  rw [List.map_map]
  refine List.map_congr_left fun n hn => ?_
  have := hm n hn
  show V.int n = V.int ((n.toNat : Nat) : Int)
  rw [show ((n.toNat : Nat) : Int) = n by omega]
 ·obtain ⟨n, hn, rfl⟩ := List.mem_map.mp hm'
  have := hm n hn
  omega
theorem mut_fp {G : GA} {x : MA} (hx : x ∈ G.cur :: G.past) : ∀ y ∈ x.fp, y ∈ G.mut A := fun y hy => .tail _ (.tail _ (.tail _ (List.mem_flatMap.mpr ⟨x, hx, hy⟩)))
theorem cur_nd {G : GA} (h : (G.mut A).Nodup) : G.cur.fp.Nodup := by
 unfold GA.mut at h
 have h := (List.nodup_cons.mp (List.nodup_cons.mp (List.nodup_cons.mp h).2).2).2
 rw [List.flatMap_cons] at h
 exact (List.nodup_append.mp h).1
theorem GameA.recur {H H' : Hp} {G : GA} {s : State} {t : Table} (h : GameA A H G s) (e : Kp G.cur.fp H H') (ht : TabA A H' G.cur t) : GameA A H' G ⟨s.board, t, s.past⟩ := by
 have hnd := h.nd
 unfold GA.mut at hnd
 obtain ⟨hn1, hnd⟩ := List.nodup_cons.mp hnd
 obtain ⟨hn2, hnd⟩ := List.nodup_cons.mp hnd
 obtain ⟨hn3, hnd⟩ := List.nodup_cons.mp hnd
 rw [List.flatMap_cons] at hnd
 have hdj := (List.nodup_append.mp hnd).2.2
 have inn : ∀ y ∈ G.cur.fp, y ∈ (G.cur :: G.past).flatMap MA.fp := fun y hy => List.mem_flatMap.mpr ⟨G.cur, .head _, hy⟩
 have hfix : ∀ z ∈ G.fix, z ∉ G.cur.fp := fun z hz q => h.dis z hz (mut_fp (.head _) z q)
 refine ⟨let ⟨dg, a⟩ := h.ins; ⟨dg, e.kp _ _ a fun q => hn1 (.tail _ (.tail _ (inn _ q)))⟩, h.grid.keep e (hfix _ (.head _)) (hfix _ (.tail _ (.head _))) fun r hr => hfix r (.tail _ (.tail _ hr)), ht, e.kp _ _ h.pst fun q => hn2 (.tail _ (inn _ q)),
  past_keep e h.past fun x hx y hy q => hdj y q y (List.mem_flatMap.mpr ⟨x, hx, hy⟩) rfl, h.tbl.keep e (fun q => hn3 (inn _ q)) fun b hb φ q => ?_, h.nd, h.dis⟩
 obtain ⟨kvs, ⟨⟨dm, h1⟩, h2, h3, h4⟩, h5⟩ := h.cur
 have : b = G.cur.m ∨ b = G.cur.pl ∨ b = G.cur.cl := by simpa [MA.fp] using hb
 rcases this with rfl | rfl | rfl
 ·rw [h1] at q; cases q
 ·rw [h5] at q; cases q
 ·rw [h4] at q; cases q
theorem GameA.gm {H : Hp} {G : GA} {s : State} (h : GameA A H G s) : GmR A H G.g G.gr G.cur.m G.ps := h.ins
theorem okzS (T : Txt K mg A) : FnOk P w K mg base CX0 5 A.azS A.dzS ["game", "company", "moves"] (spzS K A) := by
 have Gzr := okzr P w base T
 have Gzm := okzm P w base T
 have GzO := okzO P w base T
 have GzP := okzP P w base T
 refine T.fzS.ok (k := 4) sczS (fun vs H Q E h => ?_) (fun cdv Ar outer s H vs Q E hr h => ?_)
 ·obtain ⟨_, _, _, _, _, _, rfl, _⟩ := h; rfl
 obtain ⟨G, s, c, l, ms, mk, rfl, hA, S, hmk, hl, hlm, hms, k⟩ := h
 refine ⟨_, (pQ (ps_expr (pe_meth0 (pv 0) T.clGame T.mzr Gzr (hr.mono (by decide : 4 ≤ 4)) T.bzr .nil pass0))
  (pQ (ps_expr (pe_meth (pe_fld (pv 0) rfl) T.clMarkers T.mzm Gzm (hr.mono (by decide : 4 ≤ 4)) T.bzm .nil pass0 (pA (pe_fld (pv 0) rfl) (pA (pv 1) (pA (pv 2) pZ)))))
  (pI (pY (pe_lst (pA (pe_ifExp (pt_val (pe_call GzO (hr.mono (by decide : 1 ≤ 4)) rfl T.gzO T.fzO.kp T.bzO .nil pass0 (pA (pv 0) (pA (pv 1) pZ)))) (pe_call GzP (hr.mono (by decide : 2 ≤ 4)) rfl T.gzP T.fzP.kp T.bzP .nil pass0 (pA (pv 0) (pA (pv 1) pZ))) pe_int) pZ)))))), ?_⟩
 have hins := hA.ins
 obtain ⟨dg, hg⟩ := hins
 refine ⟨_, rfl, G.g, dg, _, rfl, hg, rfl, G, s, rfl, hA, S.plen, fun H1 past hA1 e1 hnew => ?_⟩
 have hfixeq : GA.fix { G with past := past } = G.fix := rfl
 have hins1 := hA1.ins
 obtain ⟨dg1, hg1⟩ := hins1
 have hcur1 := hA1.cur
 obtain ⟨kvs1, ⟨⟨dm1, hm1⟩, _⟩, _⟩ := hcur1
 have hl1 : SqL K H1 l (nVs ms) := e1.seq (fun q => hlm (by
  have : l = G.ps := by simpa using q
  rw [this]
  exact .tail _ (.head _))) hl
 refine ⟨_, rfl, G.g, A.cGame, dg1, _, _, rfl, hg1, T.clGame, T.nGm, rfl, G.cur.m, dm1, _, rfl, hm1, rfl, _, rfl, G.g, A.cGame, dg1, _, _, rfl, hg1, T.clGame, T.nGg, rfl, _, rfl, _, rfl, G.cur, s.table, G.gr, G.w, G.rs, s.board, c, l, ms, mk, rfl, hA1.cur, S.tab, hA1.grid, ?_, cur_nd hA.nd, hl1, hms, hmk, fun H2 tab2 e2 => ?_⟩
 ·exact fun y hy q => hA.dis y hy (mut_fp (.head _) y q)
 have hA2 := GameA.recur hA1 e2 tab2
 have S2 := S.moved c ms
 have hA2' : GameA A H2 { G with past := past } (Vbsgae.moved s c ms) := hA2
 have hcur2 := hA2'.cur
 obtain ⟨kvs2, hR2, hp2⟩ := hcur2
 have e02 : Kp (G.mut A) H H2 := (e1.mono fun x hx => by
  have : x = G.ps := by simpa using hx
  rw [this]
  exact .tail _ (.head _)).trans (e2.mono fun x hx => mut_fp (.head _) x hx)
 have hsub : ∀ x ∈ GA.mut A { G with past := past } ++ GA.fix { G with past := past }, x ∈ G.mut A ++ G.fix ∨ H x = none := fun x hx => by
  rcases List.mem_append.mp hx with hx | hx
  ·rcases hnew x hx with h | h
   ·exact .inl (List.mem_append_left _ h)
   ·exact .inr h
  ·exact .inl (List.mem_append_right _ hx)
 have hon := kv_on (s := Vbsgae.moved s c ms) hR2 S2.tab (c : Int)
 have hc18 : 1 ≤ c ∧ c ≤ 8 := by
  obtain ⟨m1, m2⟩ := markerOf_some hmk
  have := S.tab.co mk m1
  rw [m2] at this
  exact this
 have hbt : Vbsgae.onBoard (Vbsgae.moved s c ms) (c : Int) = (Vbsgae.markerOf (Vbsgae.moved s c ms).table c).isSome := by
  unfold Vbsgae.onBoard Vbsgae.isCompany Vbsgae.between
  rw [decide_eq_true (show (1 : Int) ≤ (c : Int) by omega), decide_eq_true (show (c : Int) ≤ 8 by omega)]
  rfl
 refine ⟨_, rfl, _, rfl, G.g, G.gr, G.ps, G.cur, _, kvs2, _, rfl, hA2'.ins, hR2, _, rfl, ?_⟩
 rw [hon, hbt]
 have kk := k H2 { G with past := past }
 refine ite2 (fun h => ?_) (fun h => ?_)
 ·obtain ⟨m2, hm2⟩ := Option.isSome_iff_exists.mp h
  obtain ⟨a, hv, ha⟩ := kv_some hR2.kv hm2
  obtain ⟨mm, mc⟩ := markerOf_some hm2
  refine ⟨_, rfl, _, rfl, G.g, G.gr, G.ps, G.w, G.rs, s.board, G.cur, _, kvs2, _, a, m2.place, rfl, hA2'.ins, hR2, hA2'.grid, hv, ha, S2.tab.pl m2 mm, sz, fun p hp => ?_⟩
  refine k _ { G with past := past } p rfl (hA2'.keep0 (.new hp)) ?_ (e02.trans (.new hp)) hsub
  rw [uS]
  have e : Vbsgae.priceOf (Vbsgae.moved s c ms) c = (Vbsgae.cellAt s.board m2.place).price := by
   have := markerOf_price (s := Vbsgae.moved s c ms) S2.tab mm
   rw [mc] at this
   exact this
  rw [e]
 ·have hnone : Vbsgae.markerOf (Vbsgae.moved s c ms).table c = none := by
   cases e : Vbsgae.markerOf (Vbsgae.moved s c ms).table c with
   | none => rfl
   | some m => rw [e] at h; exact absurd rfl h
  refine ⟨sz, fun p hp => ?_⟩
  refine k _ { G with past := past } p rfl (hA2'.keep0 (.new hp)) ?_ (e02.trans (.new hp)) hsub
  rw [uS]
  have e : Vbsgae.priceOf (Vbsgae.moved s c ms) c = 0 := by
   unfold Vbsgae.priceOf
   rw [hnone]
  rw [e]
  rfl
end
end Pb
namespace Pb
open PySem PySem.Spec PyProof.Rows L2 Vb
open Vbsgae (Cell Board Marker Table State)
section
variable {K : W.Frag} {A : Adr} {Q : VK} {G : GA} {r a : Addr} {ns : List Int} {i : Nat} {H H1 H2 : Hp} {s : State}
def Fin (A : Adr) (Q : VK) (G : GA) (r a : Addr) (i : Nat) (H1 : Hp) (res : State × List Int) : Prop := ∀ (H' : Hp) (G' : GA) (p : Addr), G'.g = G.g → GameA A H' G' res.1 → ReaderA A H' r a i → H' p = some (.lst (iVs res.2)) →
 Kp (r :: G.mut A) H1 H' → (∀ x ∈ G'.mut A ++ G'.fix, x ∈ G.mut A ++ G.fix ∨ H1 x = none) → Q (.ref p) H'
theorem Fin.same {res : State × List Int} {p : Addr} (F : Fin A Q G r a i H1 res) (hs : res.1 = s) (hA : GameA A H1 G s) (hR : ReaderA A H1 r a i) (e : Kp [] H1 H2) (hp : H2 p = some (.lst (iVs res.2))) : Q (.ref p) H2 :=
 F H2 G p rfl (by rw [hs]; exact hA.keep0 e) (hR.keep0 e) hp e.any fun x hx => .inl hx
theorem Fin.one {x : Int} {p : Addr} (F : Fin A Q G r a i H1 (s, [x])) (hA : GameA A H1 G s) (hR : ReaderA A H1 r a i) (e : Kp [] H1 H2) (hp : H2 p = none) : Q (.ref p) (upd H2 p (.lst [.int x])) :=
 F.same rfl hA hR (e.trans (.new hp)) uS
theorem Fin.move {res : State × List Int} (F : Fin A Q G r a i H1 res) (e : Kp [] H1 H2) : Fin A Q G r a i H2 res := fun H' G' p h1 h2 h3 h4 h5 h6 =>
 F H' G' p h1 h2 h3 h4 (e.any.trans h5) fun x hx => (h6 x hx).imp id (e.dom x)
theorem fin_of {c : List (List Int)} {t : List Int} {i' : Nat} (k : ∀ (H' : Hp) (G' : GA) (i' : Nat) (p : Addr), G'.g = G.g → GameA A H' G' (VbsgaeNeutral.step s c).1 → ReaderA A H' r a i' → ns.drop i' = t → H' p = some (.lst (iVs (VbsgaeNeutral.step s c).2)) → Kp (r :: G.mut A) H H' →
  (∀ x ∈ G'.mut A ++ G'.fix, x ∈ G.mut A ++ G.fix ∨ H x = none) → Q (.ref p) H') (e : Kp [r] H H1) (hd : ns.drop i' = t) : Fin A Q G r a i' H1 (VbsgaeNeutral.step s c) := fun H' G' p h1 h2 h3 h4 h5 h6 =>
 k H' G' i' p h1 h2 h3 hd h4 ((e.mono fun x hx => by
  have : x = r := by simpa using hx
  rw [this]
  exact .head _).trans h5) fun x hx => (h6 x hx).imp id (e.dom x)
theorem GameA.keepR {i0 : Nat} (hA : GameA A H G s) (e : Kp [r] H H1) (hR : ReaderA A H r a i0) (h1 : r ∉ G.mut A) (h2 : r ∉ G.fix) : GameA A H1 G s :=
 hA.keep e (fun x hx q => h1 (by
  have : x = r := by simpa using q
  rw [← this]
  exact hx)) (fun x hx q => h2 (by
  have : x = r := by simpa using q
  rw [← this]
  exact hx)) fun b hb φ q => by
  have : b = r := by simpa using hb
  subst this
  obtain ⟨dx, hR⟩ := hR
  rw [hR] at q
  cases q
theorem t1 (h : 1 ≤ (ns.drop i).length) : ∃ z, ns[i]? = some z ∧ (ns.drop i).take 1 = [z] ∧ (ns.drop i).drop 1 = ns.drop (i + 1) := by
 rw [List.length_drop] at h
 obtain ⟨z, hz⟩ : ∃ z, ns[i]? = some z := ⟨_, List.getElem?_eq_getElem (by omega)⟩
 refine ⟨z, hz, ?_, ?_⟩
 ·rw [drop_snoc hz]; rfl
 ·rw [List.drop_drop]
theorem t2 (h : 2 ≤ (ns.drop i).length) : ∃ z y, ns[i]? = some z ∧ ns[i + 1]? = some y ∧ (ns.drop i).take 2 = [z, y] ∧ (ns.drop i).drop 2 = ns.drop (i + 2) := by
 rw [List.length_drop] at h
 obtain ⟨z, hz⟩ : ∃ z, ns[i]? = some z := ⟨_, List.getElem?_eq_getElem (by omega)⟩
 obtain ⟨y, hy⟩ : ∃ y, ns[i + 1]? = some y := ⟨_, List.getElem?_eq_getElem (by omega)⟩
 refine ⟨z, y, hz, hy, ?_, ?_⟩
 ·rw [drop_snoc hz, drop_snoc hy]; rfl
 ·rw [List.drop_drop]
theorem t3 (h : 3 ≤ (ns.drop i).length) : ∃ z y x, ns[i]? = some z ∧ ns[i + 1]? = some y ∧ ns[i + 2]? = some x ∧ (ns.drop i).take 3 = [z, y, x] ∧ (ns.drop i).drop 3 = ns.drop (i + 3) := by
 rw [List.length_drop] at h
 obtain ⟨z, hz⟩ : ∃ z, ns[i]? = some z := ⟨_, List.getElem?_eq_getElem (by omega)⟩
 obtain ⟨y, hy⟩ : ∃ y, ns[i + 1]? = some y := ⟨_, List.getElem?_eq_getElem (by omega)⟩
 obtain ⟨x, hx⟩ : ∃ y, ns[i + 2]? = some y := ⟨_, List.getElem?_eq_getElem (by omega)⟩
 refine ⟨z, y, x, hz, hy, hx, ?_, ?_⟩
 ·rw [drop_snoc hz, drop_snoc hy, drop_snoc hx]; rfl
 ·rw [List.drop_drop]
theorem t4 (h : 4 ≤ (ns.drop i).length) : ∃ z y x w, ns[i]? = some z ∧ ns[i + 1]? = some y ∧ ns[i + 2]? = some x ∧ ns[i + 3]? = some w ∧ (ns.drop i).take 4 = [z, y, x, w] ∧ (ns.drop i).drop 4 = ns.drop (i + 4) := by
 rw [List.length_drop] at h
 obtain ⟨z, hz⟩ : ∃ z, ns[i]? = some z := ⟨_, List.getElem?_eq_getElem (by omega)⟩
 obtain ⟨y, hy⟩ : ∃ y, ns[i + 1]? = some y := ⟨_, List.getElem?_eq_getElem (by omega)⟩
 obtain ⟨x, hx⟩ : ∃ y, ns[i + 2]? = some y := ⟨_, List.getElem?_eq_getElem (by omega)⟩
 obtain ⟨w, hw⟩ : ∃ y, ns[i + 3]? = some y := ⟨_, List.getElem?_eq_getElem (by omega)⟩
 refine ⟨z, y, x, w, hz, hy, hx, hw, ?_, ?_⟩
 ·rw [drop_snoc hz, drop_snoc hy, drop_snoc hx, drop_snoc hw]; rfl
 ·rw [List.drop_drop]
theorem tRow {z : Int} {r2 : List Int} (h : ns.drop i = z :: r2) (m : Nat) : r2.drop m = ns.drop (i + 1 + m) := by
 have : r2 = ns.drop (i + 1) := by
  have h1 := congrArg (List.drop 1) h
  rw [List.drop_drop] at h1
  exact h1.symm
 rw [this, List.drop_drop]
theorem ints_n (l : List Nat) : iVs (Vbsgae.ints l) = nVs l := by
 show (l.map Int.ofNat).map V.int = l.map nV
 rw [List.map_map]
 rfl
theorem counted_n (l : List Nat) : iVs (Vbsgae.counted l) = .int (l.length : Nat) :: nVs l := by
 show V.int (l.length : Nat) :: iVs (Vbsgae.ints l) = _
 rw [ints_n]
theorem w60_len {l : List Int} (h : (l.all (fun (z : Int) => VbsgaeNeutral.whole60 z) && decide (l.length ≤ 70)) = true) : l.length ≤ 70 := by
 rw [Bool.and_eq_true] at h
 exact of_decide_eq_true h.2
theorem onT {s : State} {x : MA} {kvs : List (Key × V)} (h : TabR A H x s.table kvs) (S : SInv s) {z : Int} (hz : Vbsgae.onBoard s z = true) : ∃ (c : Nat) (m : Marker) (a : Addr), z = (c : Int) ∧ z.toNat = c ∧ Vbsgae.markerOf s.table c = some m ∧ m ∈ s.table.markers ∧ m.company = c ∧ valV kvs (Sum.inl z) = some (.ref a) ∧ PlA H a m.place ∧ Vbsgae.has s.board m.place = true := by
 obtain ⟨c, m, e1, e2, e3, e4, e5, e6, e7⟩ := on_marker hz
 obtain ⟨a, h1, h2⟩ := kv_some h.kv e3
 exact ⟨c, m, a, e1, e2, e3, e4, e5, by rw [e1]; exact h1, h2, S.tab.pl m e4⟩
end
end Pb
namespace Pb
open PySem PySem.Spec PyProof.Rows L2 Vb
open Vbsgae (Cell Board Marker Table State)
section
variable (P : Program) (w : World) {K : W.Frag} {mg : Str → Option Value} (base : Heap) {A : Adr}
theorem counted_l (l : List Nat) : iVs (Vbsgae.counted l) = .int ((nVs l).length : Nat) :: nVs l := by rw [counted_n, List.length_map]
theorem index_n {l : List Nat} {c : Nat} (h : c ∈ l) : ∃ j, j = l.findIdx (fun d => d == c) ∧ (nVs l)[j]? = some (nV c) ∧ ∀ (m : Nat) (z : V), m < j → (nVs l)[m]? = some z → eqV z (nV c) = false := by
 refine ⟨_, rfl, ?_, fun m z hm hz => ?_⟩
 ·have h1 : l.findIdx (fun d => d == c) < l.length := List.findIdx_lt_length_of_exists ⟨c, h, by simp⟩
  have h2 := List.findIdx_getElem (w := h1)
  have h3 : l[l.findIdx fun d => d == c] = c := by simpa using h2
  rw [List.getElem?_map, List.getElem?_eq_getElem h1, h3]
  rfl
 ·obtain ⟨d, hd, rfl⟩ := n_at hz
  have h1 := List.not_of_lt_findIdx hm
  obtain ⟨hl, he⟩ := List.getElem?_eq_some_iff.mp hd
  rw [eqV_int]
  refine decide_eq_false fun e => ?_
  rw [he] at h1
  have : d = c := by omega
  simp [this] at h1
theorem okzU (T : Txt K mg A) : FnOk P w K mg base CX0 3 A.azU A.dzU ["game", "reader"] (spCall K A 1) := by
 have GzN := okzN P w base T
 have GzH := okzH P w base T
 refine T.fzU.ok (k := 2) sczU (fun vs H Q E h => ?_) (fun cdv Ar outer s H vs Q E hr h => ?_)
 ·obtain ⟨_, _, _, _, _, _, _, _, rfl, _⟩ := h; rfl
 obtain ⟨G, r, a, ns, i, s, c, t, rfl, hA, S, hR, hC, hr1, hr2, hcall, hask, k⟩ := h
 refine ⟨_, (pI (pY (pe_call GzN (hr.mono (by decide : 1 ≤ 2)) rfl T.gzN T.fzN.kp T.bzN .nil pass0 (pA (pe_call GzH (hr.mono (by decide : 2 ≤ 2)) rfl T.gzH T.fzH.kp T.bzH .nil pass0 (pA (pe_fld (pe_fld (pv 0) rfl) rfl) pZ)) pZ)))), ?_⟩
 obtain ⟨rfl, -, rfl⟩ := dec0 (n := 0) rfl hcall
 have F : Fin A Q G r a i H (s, Vbsgae.counted (Vbsgae.printed s.board)) := fin_of k (.refl _ _) rfl
 obtain ⟨dg, hg⟩ := hA.ins
 obtain ⟨dgr, hgr⟩ := hA.grid.ins
 have hpl := printed_len S.good
 refine ⟨_, rfl, G.g, A.cGame, dg, _, _, rfl, hg, T.clGame, T.nGg, rfl, G.gr, A.cGrid, dgr, _, _, rfl, hgr, T.clGrid, T.nGr, rfl, G.w, G.rs, s.board, rfl, hA.grid.rows, S.good, fun H1 p hp e1 => ?_⟩
 refine ⟨p, _, rfl, .inl (SqL.of hp), by rw [List.length_map]; omega, fun H2 q hq nq e2 => F.same rfl hA hR (e1.trans e2) ?_⟩
 rw [counted_l]
 exact hq
theorem okzV (T : Txt K mg A) : FnOk P w K mg base CX0 3 A.azV A.dzV ["game", "reader"] (spCall K A 2) := by
 have GzL := okzL P w base T
 have Gzb := okzb P w base T
 have Gzd := okzd P w base T
 have GzN := okzN P w base T
 have Gze := okze P w base T
 refine T.fzV.ok (k := 2) sczV (fun vs H Q E h => ?_) (fun cdv Ar outer s H vs Q E hr h => ?_)
 ·obtain ⟨_, _, _, _, _, _, _, _, rfl, _⟩ := h; rfl
 obtain ⟨G, r, a, ns, i, s, c, t, rfl, hA, S, hR, hC, hr1, hr2, hcall, hask, k⟩ := h
 refine ⟨_, (pQ (ps_set (i := 2) sczV.nd rfl (Or.inl rfl) (pe_meth0 (pv 1) T.clReader T.mzL GzL (hr.mono (by decide : 2 ≤ 2)) T.bzL .nil pass0))
  (pQ (ps_if (pt_not (pt_val (pe_meth (pe_fld (pv 0) rfl) T.clGrid T.mzb Gzb (hr.mono (by decide : 1 ≤ 2)) T.bzb .nil pass0 (pA (pv 2) pZ)))) (pI (pY (pe_lst (pA (pe_glob (v := .int (-1)) rfl T.gxv ⟨_, rfl⟩) pZ)))) pss_nil)
  (pI (pY (pe_op op_cat (pe_lst (pA (pe_meth (pe_fld (pv 0) rfl) T.clGrid T.mzd Gzd (hr.mono (by decide : 1 ≤ 2)) T.bzd .nil pass0 (pA (pv 2) pZ)) pZ)) (pe_call GzN (hr.mono (by decide : 1 ≤ 2)) rfl T.gzN T.fzN.kp T.bzN .nil pass0 (pA (pe_meth (pe_fld (pv 0) rfl) T.clGrid T.mze Gze (hr.mono (by decide : 1 ≤ 2)) T.bze .nil pass0 (pA (pv 2) pZ)) pZ))))))), ?_⟩
 obtain ⟨rfl, hn, rfl⟩ := dec0 (n := 2) rfl hcall
 obtain ⟨z, y, hz, hy, ht, hd⟩ := t2 hn
 rw [ht] at k
 rw [hd] at k
 obtain ⟨dx, hR'⟩ := hR
 refine ⟨_, rfl, r, dx, _, rfl, hR', rfl, r, a, ns, i, z, y, rfl, ⟨dx, hR'⟩, hC, hz, hy, fun H1 p hp hR1 e1 => ?_⟩
 have F : Fin A Q G r a (i + 2) H1 (Vbsgae.step s (.cell z y)) := fin_of k e1 rfl
 have hA1 := hA.keepR e1 ⟨dx, hR'⟩ hr1 hr2
 obtain ⟨dg, hg⟩ := hA1.ins
 obtain ⟨dgr, hgr⟩ := hA1.grid.ins
 refine ⟨_, rfl, G.g, A.cGame, dg, _, _, rfl, hg, T.clGame, T.nGg, rfl, G.gr, dgr, _, rfl, hgr, rfl, _, rfl, G.gr, G.w, G.rs, s.board, p, z, y, rfl, hA1.grid, hp, _, rfl, ite2 (fun h => ?_) (fun h => ?_)⟩
 ·have h' : Vbsgae.isPlace s z y = false := by simpa [isPlace_eq] using h
  have F : Fin A Q G r a (i + 2) H1 (s, [-1]) := by
   have := F
   unfold Vbsgae.step at this
   dsimp only at this
   rw [asked_no h'] at this
   exact this
  exact ⟨sz, fun q hq => F.one hA1 hR1 (.refl _ _) hq⟩
 ·have h' : hasZ s.board z y = true := by simpa using h
  have F : Fin A Q G r a (i + 2) H1 (s, Int.ofNat (Vbsgae.cellAt s.board (z.toNat, y.toNat)).price :: Vbsgae.counted (Vbsgae.cellAt s.board (z.toNat, y.toNat)).letters) := by
   have := F
   unfold Vbsgae.step at this
   dsimp only at this
   rw [asked_yes (by rw [isPlace_eq]; exact h'), asked_nil] at this
   exact this
  obtain ⟨q, rfl, rfl, hq⟩ := hasZ_iff.mp h'
  have hpq : PlA H1 p q := hp
  rw [Int.toNat_natCast, Int.toNat_natCast] at F
  have cg := cell_good S.good hq
  refine ⟨_, rfl, G.g, A.cGame, dg, _, _, rfl, hg, T.clGame, T.nGg, rfl, G.gr, dgr, _, rfl, hgr, rfl, _, rfl, G.gr, G.w, G.rs, s.board, p, q, rfl, hA1.grid, hpq, hq, sz, fun p1 hp1 => ?_⟩
  have e2 : Kp [] H1 (upd H1 p1 (.lst [nV (Vbsgae.cellAt s.board q).price])) := .new hp1
  refine ⟨_, rfl, G.g, A.cGame, dg, _, _, rfl, e2.at_ hg, T.clGame, T.nGg, rfl, G.gr, dgr, _, rfl, e2.at_ hgr, rfl, _, rfl, G.gr, G.w, G.rs, s.board, p, q, rfl, hA1.grid.keep0 e2, hpq.keep e2, hq, fun l hl => ?_⟩
  refine ⟨l, _, rfl, .inr (SqT.of hl), by rw [List.length_map]; have := cg.len; omega, fun H3 p2 hp2 np2 e3 => ?_⟩
  refine ⟨p1, p2, _, _, rfl, rfl, e3.at_ uS, hp2, sz ?_, fun p3 hp3 => F.same rfl hA1 hR1 ((e2.trans e3).trans (.new hp3)) ?_⟩
  ·show 1 + (_ + 1) ≤ _
   rw [List.length_map]
   have := cg.len
   omega
  ·rw [uS]
   show some (HO.lst (nV _ :: (.int _ :: nVs _))) = some (HO.lst (V.int _ :: iVs (Vbsgae.counted _)))
   rw [counted_l]
   rfl
theorem okz1 (T : Txt K mg A) : FnOk P w K mg base CX0 3 A.az1 A.dz1 ["game", "reader"] (spCall K A 8) := by
 have GzK := okzK P w base T
 have GzO := okzO P w base T
 have GzP := okzP P w base T
 refine T.fz1.ok (k := 2) scz1 (fun vs H Q E h => ?_) (fun cdv Ar outer s H vs Q E hr h => ?_)
 ·obtain ⟨_, _, _, _, _, _, _, _, rfl, _⟩ := h; rfl
 obtain ⟨G, r, a, ns, i, s, c, t, rfl, hA, S, hR, hC, hr1, hr2, hcall, hask, k⟩ := h
 refine ⟨_, (pQ (ps_set (i := 2) scz1.nd rfl (Or.inl rfl) (pe_meth0 (pv 1) T.clReader T.mzK GzK (hr.mono (by decide : 1 ≤ 2)) T.bzK .nil pass0))
  (pQ (ps_if (pt_not (pt_val (pe_call GzO (hr.mono (by decide : 1 ≤ 2)) rfl T.gzO T.fzO.kp T.bzO .nil pass0 (pA (pv 0) (pA (pv 2) pZ))))) (pI (pY (pe_lst (pA (pe_glob (v := .int (-1)) rfl T.gxv ⟨_, rfl⟩) pZ)))) pss_nil)
  (pI (pY (pe_lst (pA (pe_call GzP (hr.mono (by decide : 2 ≤ 2)) rfl T.gzP T.fzP.kp T.bzP .nil pass0 (pA (pv 0) (pA (pv 2) pZ))) pZ)))))), ?_⟩
 obtain ⟨rfl, hn, rfl⟩ := dec0 (n := 1) rfl hcall
 obtain ⟨z, hz, ht, hd⟩ := t1 hn
 rw [ht] at k
 rw [hd] at k
 obtain ⟨dx, hR'⟩ := hR
 refine ⟨_, rfl, r, dx, _, rfl, hR', rfl, r, a, ns, i, z, rfl, ⟨dx, hR'⟩, hC, hz, fun H1 hR1 e1 => ?_⟩
 have F : Fin A Q G r a (i + 1) H1 (Vbsgae.step s (.price z)) := fin_of k e1 rfl
 have hA1 := hA.keepR e1 ⟨dx, hR'⟩ hr1 hr2
 obtain ⟨kvs, hT, hp'⟩ := hA1.cur
 have hon := kv_on hT S.tab z
 refine ⟨_, rfl, _, rfl, G.g, G.gr, G.ps, G.cur, s.table, kvs, z, rfl, hA1.ins, hT, _, rfl, ?_⟩
 rw [hon]
 refine ite2 (fun h => ?_) (fun h => ?_)
 ·have h' : Vbsgae.onBoard s z = false := by simpa using h
  have F : Fin A Q G r a (i + 1) H1 (s, [-1]) := by
   have := F
   unfold Vbsgae.step at this
   dsimp only at this
   rw [asked_no h'] at this
   exact this
  exact ⟨sz, fun q hq => F.one hA1 hR1 (.refl _ _) hq⟩
 ·have h' : Vbsgae.onBoard s z = true := by simpa using h
  have F : Fin A Q G r a (i + 1) H1 (s, [Int.ofNat (Vbsgae.priceOf s z.toNat)]) := by
   have := F
   unfold Vbsgae.step at this
   dsimp only at this
   rw [asked_yes h', asked_nil] at this
   exact this
  obtain ⟨c, m, a1, e1', e2', e3', e4', e5', e6', e7', e8'⟩ := onT hT S h'
  refine ⟨_, rfl, _, rfl, G.g, G.gr, G.ps, G.w, G.rs, s.board, G.cur, s.table, kvs, z, a1, m.place, rfl, hA1.ins, hT, hA1.grid, e6', e7', e8', sz, fun p hp => ?_⟩
  have ep : Vbsgae.priceOf s z.toNat = (Vbsgae.cellAt s.board m.place).price := by rw [e2', ← e5']; exact markerOf_price S.tab e4'
  rw [ep] at F
  exact F.one hA1 hR1 (.refl _ _) hp
theorem okz2 (T : Txt K mg A) : FnOk P w K mg base CX0 2 A.az2 A.dz2 ["game", "reader"] (spCall K A 9) := by
 have GzK := okzK P w base T
 have GzO := okzO P w base T
 have Gzn := okzn P w base T
 refine T.fz2.ok (k := 1) scz2 (fun vs H Q E h => ?_) (fun cdv Ar outer s H vs Q E hr h => ?_)
 ·obtain ⟨_, _, _, _, _, _, _, _, rfl, _⟩ := h; rfl
 obtain ⟨G, r, a, ns, i, s, c, t, rfl, hA, S, hR, hC, hr1, hr2, hcall, hask, k⟩ := h
 refine ⟨_, (pQ (ps_set (i := 2) scz2.nd rfl (Or.inl rfl) (pe_meth0 (pv 1) T.clReader T.mzK GzK (hr.mono (by decide : 1 ≤ 1)) T.bzK .nil pass0))
  (pQ (ps_if (pt_not (pt_val (pe_call GzO (hr.mono (by decide : 1 ≤ 1)) rfl T.gzO T.fzO.kp T.bzO .nil pass0 (pA (pv 0) (pA (pv 2) pZ))))) (pI (pY (pe_lst (pA (pe_glob (v := .int (-1)) rfl T.gxv ⟨_, rfl⟩) pZ)))) pss_nil)
  (pQ (ps_set (i := 3) scz2.nd rfl (Or.inl rfl) (pe_dget (by exact hu_of hr) (pe_fld (pe_fld (pv 0) rfl) rfl) (pv 2) (fun _ _ => rfl)))
  (pI (pY (pe_lst (pA (pe_ix ix_tup (pv 3) pe_int (fun _ _ => rfl)) (pA (pe_ix ix_tup (pv 3) pe_int (fun _ _ => rfl)) (pA (pe_bm PySem.F.plainAttrs_list PySem.F.slot_list_index PySem.F.type_list_index mt_index (pe_meth (pe_fld (pv 0) rfl) T.clMarkers T.mzn Gzn (hr.mono (by decide : 1 ≤ 1)) T.bzn .nil pass0 (pA (pv 3) pZ)) (pA (pv 2) pZ)) pZ))))))))), ?_⟩
 obtain ⟨rfl, hn, rfl⟩ := dec0 (n := 1) rfl hcall
 obtain ⟨z, hz, ht, hd⟩ := t1 hn
 rw [ht] at k
 rw [hd] at k
 obtain ⟨dx, hR'⟩ := hR
 refine ⟨_, rfl, r, dx, _, rfl, hR', rfl, r, a, ns, i, z, rfl, ⟨dx, hR'⟩, hC, hz, fun H1 hR1 e1 => ?_⟩
 have F : Fin A Q G r a (i + 1) H1 (Vbsgae.step s (.place z)) := fin_of k e1 rfl
 have hA1 := hA.keepR e1 ⟨dx, hR'⟩ hr1 hr2
 have hcur := hA1.cur
 obtain ⟨kvs, hT, hp'⟩ := hA1.cur
 have hon := kv_on hT S.tab z
 refine ⟨_, rfl, _, rfl, G.g, G.gr, G.ps, G.cur, s.table, kvs, z, rfl, hA1.ins, hT, _, rfl, ?_⟩
 rw [hon]
 refine ite2 (fun h => ?_) (fun h => ?_)
 ·have h' : Vbsgae.onBoard s z = false := by simpa using h
  have F : Fin A Q G r a (i + 1) H1 (s, [-1]) := by
   have := F
   unfold Vbsgae.step at this
   dsimp only at this
   rw [asked_no h'] at this
   exact this
  exact ⟨sz, fun q hq => F.one hA1 hR1 (.refl _ _) hq⟩
 ·have h' : Vbsgae.onBoard s z = true := by simpa using h
  obtain ⟨c, m, a1, rfl, e2', e3', e4', e5', e6', e7', e8'⟩ := onT hT S h'
  have F : Fin A Q G r a (i + 1) H1 (s, Vbsgae.ints [m.place.1, m.place.2, (Vbsgae.stack s m.place).findIdx fun d => d == c]) := by
   have := F
   unfold Vbsgae.step at this
   dsimp only at this
   rw [asked_yes h', asked_nil] at this
   simp only [e2', e3'] at this
   exact this
  obtain ⟨dg, hg⟩ := hA1.ins
  obtain ⟨dm, hm⟩ := hT.ins
  refine ⟨_, rfl, G.g, A.cGame, dg, _, _, rfl, hg, T.clGame, T.nGm, rfl, G.cur.m, A.cMarkers, dm, _, _, rfl, hm, T.clMarkers, T.nMp, rfl, _, rfl, G.cur.pl, _, rfl, .inl ⟨kvs, Sum.inl (c : Int), hT.pls, rfl, e6'.symm⟩, ?_⟩
  refine ⟨_, rfl, a1, _, _, _, rfl, rfl, SqT.of e7', rfl, _, rfl, a1, _, _, _, rfl, rfl, SqT.of e7', rfl, ?_⟩
  refine ⟨_, rfl, G.g, A.cGame, dg, _, _, rfl, hg, T.clGame, T.nGm, rfl, G.cur.m, dm, _, rfl, hm, rfl, _, rfl, G.cur, s.table, a1, m.place, rfl, hcur, S.tab.nd, e7', by have := S.tab.len; omega, fun H2 q hq e2 => ?_⟩
  have hse := stack_eq S.tab m.place
  have hin : c ∈ Vbsgae.stack s m.place := by
   rw [hse]
   exact List.mem_map.mpr ⟨m, List.mem_filter.mpr ⟨e4', by simp⟩, e5'⟩
  rw [← hse] at hq
  obtain ⟨j, hj, g1, g2⟩ := index_n hin
  refine ⟨.inl ⟨rfl, _, SqL.of hq⟩, _, rfl, q, _, _, j, _, rfl, rfl, SqL.of hq, rfl, flat_n _, g1, by rw [eqV_int]; exact decide_eq_true rfl, g2, sz, fun p hp => F.same rfl hA1 hR1 (e2.trans (.new hp)) ?_⟩
  rw [uS, hj]
  rfl
theorem okz4 (T : Txt K mg A) : FnOk P w K mg base CX0 3 A.az4 A.dz4 ["game", "reader"] (spCall K A 11) := by
 have GzL := okzL P w base T
 have Gzb := okzb P w base T
 have GzN := okzN P w base T
 have Gzn := okzn P w base T
 refine T.fz4.ok (k := 2) scz4 (fun vs H Q E h => ?_) (fun cdv Ar outer s H vs Q E hr h => ?_)
 ·obtain ⟨_, _, _, _, _, _, _, _, rfl, _⟩ := h; rfl
 obtain ⟨G, r, a, ns, i, s, c, t, rfl, hA, S, hR, hC, hr1, hr2, hcall, hask, k⟩ := h
 refine ⟨_, (pQ (ps_set (i := 2) scz4.nd rfl (Or.inl rfl) (pe_meth0 (pv 1) T.clReader T.mzL GzL (hr.mono (by decide : 2 ≤ 2)) T.bzL .nil pass0))
  (pQ (ps_if (pt_not (pt_val (pe_meth (pe_fld (pv 0) rfl) T.clGrid T.mzb Gzb (hr.mono (by decide : 1 ≤ 2)) T.bzb .nil pass0 (pA (pv 2) pZ)))) (pI (pY (pe_lst (pA (pe_glob (v := .int (-1)) rfl T.gxv ⟨_, rfl⟩) pZ)))) pss_nil)
  (pI (pY (pe_call GzN (hr.mono (by decide : 1 ≤ 2)) rfl T.gzN T.fzN.kp T.bzN .nil pass0 (pA (pe_meth (pe_fld (pv 0) rfl) T.clMarkers T.mzn Gzn (hr.mono (by decide : 1 ≤ 2)) T.bzn .nil pass0 (pA (pv 2) pZ)) pZ)))))), ?_⟩
 obtain ⟨rfl, hn, rfl⟩ := dec0 (n := 2) rfl hcall
 obtain ⟨z, y, hz, hy, ht, hd⟩ := t2 hn
 rw [ht] at k
 rw [hd] at k
 obtain ⟨dx, hR'⟩ := hR
 refine ⟨_, rfl, r, dx, _, rfl, hR', rfl, r, a, ns, i, z, y, rfl, ⟨dx, hR'⟩, hC, hz, hy, fun H1 p hp hR1 e1 => ?_⟩
 have F : Fin A Q G r a (i + 2) H1 (Vbsgae.step s (.stack z y)) := fin_of k e1 rfl
 have hA1 := hA.keepR e1 ⟨dx, hR'⟩ hr1 hr2
 obtain ⟨dg, hg⟩ := hA1.ins
 obtain ⟨dgr, hgr⟩ := hA1.grid.ins
 refine ⟨_, rfl, G.g, A.cGame, dg, _, _, rfl, hg, T.clGame, T.nGg, rfl, G.gr, dgr, _, rfl, hgr, rfl, _, rfl, G.gr, G.w, G.rs, s.board, p, z, y, rfl, hA1.grid, hp, _, rfl, ite2 (fun h => ?_) (fun h => ?_)⟩
 ·have h' : Vbsgae.isPlace s z y = false := by simpa [isPlace_eq] using h
  have F : Fin A Q G r a (i + 2) H1 (s, [-1]) := by
   have := F
   unfold Vbsgae.step at this
   dsimp only at this
   rw [asked_no h'] at this
   exact this
  exact ⟨sz, fun q hq => F.one hA1 hR1 (.refl _ _) hq⟩
 ·have h' : hasZ s.board z y = true := by simpa using h
  have F : Fin A Q G r a (i + 2) H1 (s, Vbsgae.counted (Vbsgae.stack s (z.toNat, y.toNat))) := by
   have := F
   unfold Vbsgae.step at this
   dsimp only at this
   rw [asked_yes (by rw [isPlace_eq]; exact h'), asked_nil] at this
   exact this
  obtain ⟨q, rfl, rfl, hq⟩ := hasZ_iff.mp h'
  have hpq : PlA H1 p q := hp
  rw [Int.toNat_natCast, Int.toNat_natCast, stack_eq S.tab] at F
  have hcur := hA1.cur
  obtain ⟨kvs, hT, hp'⟩ := hA1.cur
  obtain ⟨dm, hm⟩ := hT.ins
  refine ⟨_, rfl, G.g, A.cGame, dg, _, _, rfl, hg, T.clGame, T.nGm, rfl, G.cur.m, dm, _, rfl, hm, rfl, _, rfl, G.cur, s.table, p, q, rfl, hcur, S.tab.nd, hpq, by have := S.tab.len; omega, fun H2 q2 hq2 e2 => ?_⟩
  refine ⟨q2, _, rfl, .inl (SqL.of hq2), ?_, fun H3 p3 hp3 np3 e3 => F.same rfl hA1 hR1 (e2.trans e3) ?_⟩
  ·rw [List.length_map, List.length_map]
   have h1 := List.length_filter_le (fun m : Marker => m.place == q) s.table.markers
   have := S.tab.len
   omega
  ·rw [counted_l]
   exact hp3
theorem okz5 (T : Txt K mg A) : FnOk P w K mg base CX0 2 A.az5 A.dz5 ["game", "reader"] (spCall K A 12) := by
 have GzN := okzN P w base T
 refine T.fz5.ok (k := 1) scz5 (fun vs H Q E h => ?_) (fun cdv Ar outer s H vs Q E hr h => ?_)
 ·obtain ⟨_, _, _, _, _, _, _, _, rfl, _⟩ := h; rfl
 obtain ⟨G, r, a, ns, i, s, c, t, rfl, hA, S, hR, hC, hr1, hr2, hcall, hask, k⟩ := h
 refine ⟨_, (pI (pY (pe_call GzN (hr.mono (by decide : 1 ≤ 1)) rfl T.gzN T.fzN.kp T.bzN .nil pass0 (pA (pe_fld (pe_fld (pv 0) rfl) rfl) pZ)))), ?_⟩
 obtain ⟨rfl, -, rfl⟩ := dec0 (n := 0) rfl hcall
 have F : Fin A Q G r a i H (s, Vbsgae.counted s.table.closed) := fin_of k (.refl _ _) rfl
 obtain ⟨dg, hg⟩ := hA.ins
 obtain ⟨kvs, hT, hp'⟩ := hA.cur
 obtain ⟨dm, hm⟩ := hT.ins
 refine ⟨_, rfl, G.g, A.cGame, dg, _, _, rfl, hg, T.clGame, T.nGm, rfl, G.cur.m, A.cMarkers, dm, _, _, rfl, hm, T.clMarkers, T.nMc, rfl, G.cur.cl, _, rfl, .inl (SqL.of hT.clo), by rw [List.length_map]; have := S.tab.clen; omega, fun H2 q hq nq e2 => F.same rfl hA hR e2 ?_⟩
 rw [counted_l]
 exact hq
theorem okz6 (T : Txt K mg A) : FnOk P w K mg base CX0 1 A.az6 A.dz6 ["game", "reader"] (spCall K A 13) := by
 refine T.fz6.ok (k := 0) scz6 (fun vs H Q E h => ?_) (fun cdv Ar outer s H vs Q E hr h => ?_)
 ·obtain ⟨_, _, _, _, _, _, _, _, rfl, _⟩ := h; rfl
 obtain ⟨G, r, a, ns, i, s, c, t, rfl, hA, S, hR, hC, hr1, hr2, hcall, hask, k⟩ := h
 refine ⟨_, (pI (pY (pe_lst (pA (pe_ifExp (pt_val (pe_fld (pe_fld (pv 0) rfl) rfl)) pe_int pe_int) pZ)))), ?_⟩
 obtain ⟨rfl, -, rfl⟩ := dec0 (n := 0) rfl hcall
 have F : Fin A Q G r a i H (s, [Int.ofNat s.table.ended]) := fin_of k (.refl _ _) rfl
 obtain ⟨dg, hg⟩ := hA.ins
 obtain ⟨kvs, hT, hp'⟩ := hA.cur
 obtain ⟨dm, hm⟩ := hT.ins
 refine ⟨_, rfl, G.g, A.cGame, dg, _, _, rfl, hg, T.clGame, T.nGm, rfl, G.cur.m, A.cMarkers, dm, _, _, rfl, hm, T.clMarkers, T.nMe, rfl, _, rfl, ite2 (fun h => ?_) (fun h => ?_)⟩
 ·rw [dT h] at F
  exact ⟨sz, fun q hq => F.one hA hR (.refl _ _) hq⟩
 ·have : s.table.ended = 0 := S.tab.en.resolve_right (dF h)
  rw [this] at F
  exact ⟨sz, fun q hq => F.one hA hR (.refl _ _) hq⟩
theorem okyd (T : Txt K mg A) : FnOk P w K mg base CX0 2 A.ayd A.dyd ["game", "reader"] (spCall K A 20) := by
 have Gzc := okzc P w base T
 refine T.fyd.ok (k := 1) scyd (fun vs H Q E h => ?_) (fun cdv Ar outer s H vs Q E hr h => ?_)
 ·obtain ⟨_, _, _, _, _, _, _, _, rfl, _⟩ := h; rfl
 obtain ⟨G, r, a, ns, i, s, c, t, rfl, hA, S, hR, hC, hr1, hr2, hcall, hask, k⟩ := h
 refine ⟨_, (pQ (ps_set (i := 2) scyd.nd rfl (Or.inl rfl) (pe_fld (pe_fld (pv 0) rfl) rfl))
  (pQ (ps_set (i := 3) scyd.nd rfl (Or.inl rfl) (pe_callB call_len_seq (by rfl) T.nlen bt_len (pA (pe_meth0 (pe_fld (pv 0) rfl) T.clGrid T.mzc Gzc (hr.mono (by decide : 1 ≤ 1)) T.bzc .nil pass0) pZ)))
  (pI (pY (pe_lst (pA (pe_callB call_len_seq (by rfl) T.nlen bt_len (pA (pv 2) pZ)) (pA (pe_callB call_len_seq (by rfl) T.nlen bt_len (pA (pe_ix ix_list (pv 2) pe_int (fun _ _ => rfl)) pZ)) (pA (pv 3) (pA (pe_callB call_lenD (by rfl) T.nlen bt_len (pA (pe_fld (pe_fld (pv 0) rfl) rfl) pZ)) (pA (pe_callB call_len_seq (by rfl) T.nlen bt_len (pA (pe_fld (pv 0) rfl) pZ)) pZ)))))))))), ?_⟩
 obtain ⟨rfl, -, rfl⟩ := dec0 (n := 0) rfl hcall
 have F : Fin A Q G r a i H (s, Vbsgae.ints [s.board.length, (s.board.headD []).length, (Vbsgae.places s.board).length, s.table.markers.length, s.past.length]) := fin_of k (.refl _ _) rfl
 obtain ⟨dg, hg⟩ := hA.ins
 obtain ⟨dgr, hgr⟩ := hA.grid.ins
 obtain ⟨kvs, hT, hp'⟩ := hA.cur
 obtain ⟨dm, hm⟩ := hT.ins
 have hne := S.ne
 refine ⟨_, rfl, G.g, A.cGame, dg, _, _, rfl, hg, T.clGame, T.nGg, rfl, G.gr, A.cGrid, dgr, _, _, rfl, hgr, T.clGrid, T.nGr, rfl, ?_⟩
 refine ⟨_, rfl, G.g, A.cGame, dg, _, _, rfl, hg, T.clGame, T.nGg, rfl, G.gr, dgr, _, rfl, hgr, rfl, G.gr, G.w, G.rs, s.board, rfl, hA.grid, S.good, fun H1 p as hp pas e1 => ?_⟩
 refine ⟨p, _, rfl, .inl (SqL.of hp), ?_⟩
 obtain ⟨row0, b', hb⟩ : ∃ row b', s.board = row :: b' := by
  cases e : s.board with
  | nil => exact absurd e hne
  | cons a b => exact ⟨a, b, rfl⟩
 obtain ⟨r0, q1, cs, hcs, pc⟩ := pget (i := 0) hA.grid.rows.rows (by rw [hb]; rfl)
 refine ⟨_, rfl, G.w, _, rfl, .inl (SqL.of (e1.at_ hA.grid.rows.at_)), ?_⟩
 refine ⟨_, rfl, G.w, _, _, V.ref r0, rfl, rfl, SqL.of (e1.at_ hA.grid.rows.at_), at_nat (i := 0) q1, r0, _, rfl, .inl (SqL.of (e1.at_ hcs)), _, rfl, ?_⟩
 refine ⟨_, rfl, G.g, A.cGame, dg, _, _, rfl, e1.at_ hg, T.clGame, T.nGm, rfl, G.cur.m, A.cMarkers, dm, _, _, rfl, e1.at_ hm, T.clMarkers, T.nMp, rfl, G.cur.pl, kvs, rfl, e1.at_ hp', ?_⟩
 refine ⟨_, rfl, G.g, A.cGame, dg, _, _, rfl, e1.at_ hg, T.clGame, T.nGp, rfl, G.ps, _, rfl, .inl (SqL.of (e1.at_ hA.pst)), sz, fun q hq => F.same rfl hA hR (e1.trans (.new hq)) ?_⟩
 rw [uS]
 have l1 : (G.rs.map V.ref).length = s.board.length := by rw [List.length_map]; exact plen hA.grid.rows.rows
 have l2 : (cs.map V.ref).length = (s.board.headD []).length := by rw [List.length_map, hb]; exact plen pc
 have l3 : (as.map V.ref).length = (Vbsgae.places s.board).length := by rw [List.length_map]; exact plen pas
 have l4 : kvs.length = s.table.markers.length := plen hT.kv
 have l5 : (G.past.map fun x => V.ref x.m).length = s.past.length := by rw [List.length_map, plen hA.past, List.length_reverse]
 rw [l1, l2, l3, l4, l5]
 rfl
end
end Pb
namespace Pb
open PySem PySem.Spec PyProof.Rows L2 Vb
open Vbsgae (Cell Board Marker Table State)
section
variable (P : Program) (w : World) {K : W.Frag} {mg : Str → Option Value} (base : Heap) {A : Adr}
theorem okz7 (T : Txt K mg A) : FnOk P w K mg base CX0 4 A.az7 A.dz7 ["game", "reader"] (spCall K A 14) := by
 have GzL := okzL P w base T
 have GzM := okzM P w base T
 have Gzb := okzb P w base T
 have GzQ := okzQ P w base T
 have Gzg := okzg P w base T
 refine T.fz7.ok (k := 3) scz7 (fun vs H Q E h => ?_) (fun cdv Ar outer s H vs Q E hr h => ?_)
 ·obtain ⟨_, _, _, _, _, _, _, _, rfl, _⟩ := h; rfl
 obtain ⟨G, r, a, ns, i, s, c, t, rfl, hA, S, hR, hC, hr1, hr2, hcall, hask, k⟩ := h
 refine ⟨_, (pQ (ps_set (i := 2) scz7.nd rfl (Or.inl rfl) (pe_meth0 (pv 1) T.clReader T.mzL GzL (hr.mono (by decide : 2 ≤ 3)) T.bzL .nil pass0))
  (pQ (ps_set (i := 3) scz7.nd rfl (Or.inl rfl) (pe_meth0 (pv 1) T.clReader T.mzM GzM (hr.mono (by decide : 2 ≤ 3)) T.bzM .nil pass0))
  (pQ (ps_if (pt_not (pt_val (pe_meth (pe_fld (pv 0) rfl) T.clGrid T.mzb Gzb (hr.mono (by decide : 1 ≤ 3)) T.bzb .nil pass0 (pA (pv 2) pZ)))) (pI (pY (pe_lst (pA (pe_glob (v := .int (-1)) rfl T.gxv ⟨_, rfl⟩) pZ)))) pss_nil)
  (pQ (ps_if (pt_not (pt_val (pe_call GzQ (hr.mono (by decide : 1 ≤ 3)) rfl T.gzQ T.fzQ.kp T.bzQ .nil pass0 (pA (pv 3) pZ)))) (pI (pY (pe_lst (pA (pe_glob (v := .int (-2)) rfl T.gxw ⟨_, rfl⟩) pZ)))) pss_nil)
  (pI (pY (pe_callTy call_list_of (by rfl) T.nlist bt_list (pA (pe_meth (pe_fld (pv 0) rfl) T.clGrid T.mzg Gzg (hr.mono (by decide : 3 ≤ 3)) T.bzg .nil pass0 (pA (pv 2) (pA (pv 3) pZ))) pZ)))))))), ?_⟩
 obtain ⟨z0, r2, hd0, h0, hz0, rfl, hn, rfl⟩ := dec1 (n := 2) rfl hcall
 obtain ⟨z, y, hz, hy, ht, hd⟩ := t2 hn
 rw [hd] at hd0
 rw [ht] at k hask
 have h70 : (r2.take z0.toNat).length ≤ 70 := by
  have h : (VbsgaeNeutral.whole60 z && (VbsgaeNeutral.whole60 y && ((r2.take z0.toNat).all (fun z => VbsgaeNeutral.whole60 z) && decide ((r2.take z0.toNat).length ≤ 70)))) = true := hask
  rw [Bool.and_eq_true, Bool.and_eq_true] at h
  exact w60_len h.2.2
 rw [tRow hd0] at k
 generalize hlst : r2.take z0.toNat = lst at *
 obtain ⟨dx, hR'⟩ := hR
 refine ⟨_, rfl, r, dx, _, rfl, hR', rfl, r, a, ns, i, z, y, rfl, ⟨dx, hR'⟩, hC, hz, hy, fun H1 p hp hR1 e1 => ?_⟩
 have hC1 := hC.keepR e1 ⟨dx, hR'⟩
 obtain ⟨dx1, hR1'⟩ := hR1
 refine ⟨_, rfl, r, dx1, _, rfl, hR1', rfl, r, a, ns, i + 2, z0, r2, rfl, ⟨dx1, hR1'⟩, hC1, hd0, h0, hz0, fun H2 l hl nl hR2 e2 => ?_⟩
 rw [hlst] at hl
 have e12 := e1.trans e2
 have F : Fin A Q G r a (i + 2 + 1 + z0.toNat) H2 (Vbsgae.step s (.reach z y lst)) := fin_of k e12 rfl
 have hA1 := hA.keepR e12 ⟨dx, hR'⟩ hr1 hr2
 have hp2 := hp.keep e2
 obtain ⟨dg, hg⟩ := hA1.ins
 obtain ⟨dgr, hgr⟩ := hA1.grid.ins
 refine ⟨_, rfl, G.g, A.cGame, dg, _, _, rfl, hg, T.clGame, T.nGg, rfl, G.gr, dgr, _, rfl, hgr, rfl, _, rfl, G.gr, G.w, G.rs, s.board, p, z, y, rfl, hA1.grid, hp2, _, rfl, ite2 (fun h => ?_) (fun h => ?_)⟩
 ·have h' : Vbsgae.isPlace s z y = false := by simpa [isPlace_eq] using h
  have F : Fin A Q G r a (i + 2 + 1 + z0.toNat) H2 (s, [-1]) := by
   have := F
   unfold Vbsgae.step at this
   dsimp only at this
   rw [asked_no h'] at this
   exact this
  exact ⟨sz, fun q hq => F.one hA1 hR2 (.refl _ _) hq⟩
 have h' : hasZ s.board z y = true := by simpa using h
 have hip : Vbsgae.isPlace s z y = true := by rw [isPlace_eq]; exact h'
 refine ⟨_, rfl, l, lst, rfl, SqL.of hl, by omega, fun H3 e3 => ⟨_, rfl, ite2 (fun h2 => ?_) (fun h2 => ?_)⟩⟩
 ·have h2' : Vbsgae.areMoves lst = false := by simpa using h2
  have F : Fin A Q G r a (i + 2 + 1 + z0.toNat) H2 (s, [-2]) := by
   have := F
   unfold Vbsgae.step at this
   dsimp only at this
   rw [asked_yes hip, asked_no h2'] at this
   exact this
  exact ⟨sz, fun q hq => F.one hA1 hR2 e3 hq⟩
 have h2' : Vbsgae.areMoves lst = true := by simpa using h2
 have F : Fin A Q G r a (i + 2 + 1 + z0.toNat) H2 (s, Vbsgae.ints [(Vbsgae.go s.board (z.toNat, y.toNat) (Vbsgae.nats lst)).1, (Vbsgae.go s.board (z.toNat, y.toNat) (Vbsgae.nats lst)).2]) := by
  have := F
  unfold Vbsgae.step at this
  dsimp only at this
  rw [asked_yes hip, asked_yes h2', asked_nil] at this
  exact this
 obtain ⟨q, rfl, rfl, hq⟩ := hasZ_iff.mp h'
 have hpq : PlA H2 p q := hp2
 rw [Int.toNat_natCast, Int.toNat_natCast] at F
 obtain ⟨am1, am2⟩ := areMoves_ok h2'
 have hl3 : SqL K H3 l (nVs (Vbsgae.nats lst)) := by rw [← am1]; exact SqL.of (e3.at_ hl)
 refine ⟨_, rfl, G.g, A.cGame, dg, _, _, rfl, e3.at_ hg, T.clGame, T.nGg, rfl, G.gr, dgr, _, rfl, e3.at_ hgr, rfl, _, rfl, _, rfl, G.gr, G.w, G.rs, s.board, p, q, l, Vbsgae.nats lst, rfl, hA1.grid.keep0 e3, hpq.keep e3, hq, hl3, am2, fun H4 a4 ha4 e4 => ?_⟩
 exact ⟨a4, _, rfl, .inr (SqT.of ha4), fun m hm => F.same rfl hA1 hR2 ((e3.trans e4).trans (.new hm)) uS⟩
theorem okz8 (T : Txt K mg A) : FnOk P w K mg base CX0 4 A.az8 A.dz8 ["game", "reader"] (spCall K A 15) := by
 have GzM := okzM P w base T
 have GzQ := okzQ P w base T
 have Gzc := okzc P w base T
 have Gzg := okzg P w base T
 refine T.fz8.ok (k := 3) scz8 (fun vs H Q E h => ?_) (fun cdv Ar outer s H vs Q E hr h => ?_)
 ·obtain ⟨_, _, _, _, _, _, _, _, rfl, _⟩ := h; rfl
 obtain ⟨G, r, a, ns, i, s, c, t, rfl, hA, S, hR, hC, hr1, hr2, hcall, hask, k⟩ := h
 refine ⟨_, (pQ (ps_set (i := 2) scz8.nd rfl (Or.inl rfl) (pe_meth0 (pv 1) T.clReader T.mzM GzM (hr.mono (by decide : 2 ≤ 3)) T.bzM .nil pass0))
  (pQ (ps_set (i := 3) scz8.nd rfl (Or.inl rfl) (pe_meth0 (pv 1) T.clReader T.mzM GzM (hr.mono (by decide : 2 ≤ 3)) T.bzM .nil pass0))
  (pQ (ps_if (PW.pt (pw_or (pt_not (pt_val (pe_call GzQ (hr.mono (by decide : 1 ≤ 3)) rfl T.gzQ T.fzQ.kp T.bzQ .nil pass0 (pA (pv 2) pZ)))) (pw_or1 (pt_not (pt_val (pe_call GzQ (hr.mono (by decide : 1 ≤ 3)) rfl T.gzQ T.fzQ.kp T.bzQ .nil pass0 (pA (pv 3) pZ))))))) (pI (pY (pe_lst (pA (pe_glob (v := .int (-2)) rfl T.gxw ⟨_, rfl⟩) pZ)))) pss_nil)
  (pQ (ps_for PassesOwn.never rfl (pi_list (pe_meth0 (pe_fld (pv 0) rfl) T.clGrid T.mzc Gzc (hr.mono (by decide : 1 ≤ 3)) T.bzc .nil pass0)) (pg_name (i := 4) scz8.nd rfl (Or.inl rfl)) (pI (ps_if (pt_cmpR (op_neD (by exact hr.units)) (pe_meth (pe_fld (pv 0) rfl) T.clGrid T.mzg Gzg (hr.mono (by decide : 3 ≤ 3)) T.bzg .nil pass0 (pA (pv 4) (pA (pv 2) pZ))) (pe_meth (pe_fld (pv 0) rfl) T.clGrid T.mzg Gzg (hr.mono (by decide : 3 ≤ 3)) T.bzg .nil pass0 (pA (pv 4) (pA (pv 3) pZ))) (nomark _)) (pI (pY (pe_lst (pA pe_int pZ)))) pss_nil)))
  (pI (pY (pe_lst (pA pe_int pZ)))))))), ?_⟩
 obtain ⟨z0, r2, y0, r3, hd0, h0, hz0, hd1, g0, gz0, rfl, hn, rfl⟩ := dec2 (n := 0) rfl hcall
 rw [List.drop_zero] at hd0
 rw [tRow hd0] at hd1
 rw [tRow hd1] at k
 have h70 : (r2.take z0.toNat).length ≤ 70 ∧ (r3.take y0.toNat).length ≤ 70 := by
  have h : (((r2.take z0.toNat).all (fun z => VbsgaeNeutral.whole60 z) && decide ((r2.take z0.toNat).length ≤ 70)) && ((r3.take y0.toNat).all (fun z => VbsgaeNeutral.whole60 z) && decide ((r3.take y0.toNat).length ≤ 70))) = true := hask
  rw [Bool.and_eq_true] at h
  exact ⟨w60_len h.1, w60_len h.2⟩
 generalize hv : r2.take z0.toNat = v at *
 generalize hw : r3.take y0.toNat = u at *
 obtain ⟨dx, hR'⟩ := hR
 refine ⟨_, rfl, r, dx, _, rfl, hR', rfl, r, a, ns, i, z0, r2, rfl, ⟨dx, hR'⟩, hC, hd0, h0, hz0, fun H1 l1 hl1 nl1 hR1 e1 => ?_⟩
 rw [hv] at hl1
 have hC1 := hC.keepR e1 ⟨dx, hR'⟩
 obtain ⟨dx1, hR1'⟩ := hR1
 refine ⟨_, rfl, r, dx1, _, rfl, hR1', rfl, r, a, ns, i + 1 + z0.toNat, y0, r3, rfl, ⟨dx1, hR1'⟩, hC1, hd1, g0, gz0, fun H2 l2 hl2 nl2 hR2 e2 => ?_⟩
 rw [hw] at hl2
 have e12 := e1.trans e2
 have F : Fin A Q G r a (i + 1 + z0.toNat + 1 + y0.toNat) H2 (Vbsgae.step s (.same v u)) := fin_of k e12 rfl
 have hA1 := hA.keepR e12 ⟨dx, hR'⟩ hr1 hr2
 have hl1' : H2 l1 = some (.lst (iVs v)) := e2.kp _ _ hl1 (by
  have : l1 ≠ r := (ne_of_none hR' nl1).symm
  simpa using this)
 obtain ⟨dg, hg⟩ := hA1.ins
 obtain ⟨dgr, hgr⟩ := hA1.grid.ins
 have no : (Vbsgae.areMoves v && Vbsgae.areMoves u) = false → Fin A Q G r a (i + 1 + z0.toNat + 1 + y0.toNat) H2 (s, [-2]) := fun h => by
  have := F
  unfold Vbsgae.step at this
  dsimp only at this
  rw [asked_no h] at this
  exact this
 refine ⟨_, rfl, l1, v, rfl, SqL.of hl1', by omega, fun H3 e3 => ⟨_, rfl, ite2 (fun h => ?_) (fun h => ?_)⟩⟩
 ·have h' : Vbsgae.areMoves v = false := by simpa using h
  exact iteT ⟨sz, fun q hq => (no (by rw [h']; rfl)).one hA1 hR2 e3 hq⟩
 have h' : Vbsgae.areMoves v = true := by simpa using h
 refine ⟨_, rfl, l2, u, rfl, SqL.of (e3.at_ hl2), by omega, fun H4 e4 => ⟨_, rfl, ite2 (fun h2 => ?_) (fun h2 => ?_)⟩⟩
 ·have h2' : Vbsgae.areMoves u = false := by simpa using h2
  exact ⟨sz, fun q hq => (no (by rw [h', h2']; rfl)).one hA1 hR2 (e3.trans e4) hq⟩
 have h2' : Vbsgae.areMoves u = true := by simpa using h2
 have F : Fin A Q G r a (i + 1 + z0.toNat + 1 + y0.toNat) H2 (s, [if Vbsgae.sameMoves s.board (Vbsgae.nats v) (Vbsgae.nats u) = true then 1 else 0]) := by
  have := F
  unfold Vbsgae.step at this
  dsimp only at this
  rw [asked_yes (by rw [h', h2']; rfl), asked_nil] at this
  exact this
 have e34 := e3.trans e4
 obtain ⟨am1, am2⟩ := areMoves_ok h'
 obtain ⟨bm1, bm2⟩ := areMoves_ok h2'
 refine ⟨_, rfl, G.g, A.cGame, dg, _, _, rfl, e34.at_ hg, T.clGame, T.nGg, rfl, G.gr, dgr, _, rfl, e34.at_ hgr, rfl, G.gr, G.w, G.rs, s.board, rfl, hA1.grid.keep0 e34, S.good, fun H5 p as hp pas e5 => ?_⟩
 have e25 := e34.trans e5
 have same_def : Vbsgae.sameMoves s.board (Vbsgae.nats v) (Vbsgae.nats u) = (Vbsgae.places s.board).all fun p => Vbsgae.go s.board p (Vbsgae.nats v) == Vbsgae.go s.board p (Vbsgae.nats u) := rfl
 refine ⟨p, rfl, ⟨_, SqL.of hp⟩, for_list (xs := as.map V.ref) (fun j σ H6 => ∃ v4 : Option V, σ = [some (.ref G.g), some (.ref r), some (.ref l1), some (.ref l2), v4] ∧ Kp [] H5 H6 ∧ ∀ x ∈ (Vbsgae.places s.board).take j, Vbsgae.go s.board x (Vbsgae.nats v) = Vbsgae.go s.board x (Vbsgae.nats u)) ⟨none, rfl, .refl _ _, fun x hx => by simp at hx⟩ ?_ ?_ ?_⟩
 ·rintro j σ H6 _ ⟨v4, rfl, e6, _⟩
  exact SqL.of (e6.at_ hp)
 ·rintro j x σ H6 hx ⟨v4, rfl, e6, hall⟩
  obtain ⟨ca, hca, rfl⟩ := r_at hx
  obtain ⟨q, hq⟩ : ∃ q, (Vbsgae.places s.board)[j]? = some q := ⟨_, List.getElem?_eq_getElem (by have := plen pas; have := (List.getElem?_eq_some_iff.mp hca).1; omega)⟩
  obtain ⟨ca', q1, hcq⟩ := pget pas hq
  rw [hca] at q1
  cases q1
  have hqb : Vbsgae.has s.board q = true := mem_places.mp (List.mem_of_getElem? hq)
  have e26 := e25.trans e6
  have s1 : SqL K H6 l1 (nVs (Vbsgae.nats v)) := by rw [← am1]; exact SqL.of (e26.at_ hl1')
  refine ⟨_, rfl, G.g, A.cGame, dg, _, _, rfl, e26.at_ hg, T.clGame, T.nGg, rfl, G.gr, dgr, _, rfl, e26.at_ hgr, rfl, _, rfl, _, rfl, G.gr, G.w, G.rs, s.board, ca, q, l1, Vbsgae.nats v, rfl, hA1.grid.keep0 e26, hcq.keep e6, hqb, s1, am2, fun H7 c7 h7 e7 => ?_⟩
  have e27 := e26.trans e7
  have s2 : SqL K H7 l2 (nVs (Vbsgae.nats u)) := by rw [← bm1]; exact SqL.of (e27.at_ hl2)
  refine ⟨_, rfl, G.g, A.cGame, dg, _, _, rfl, e27.at_ hg, T.clGame, T.nGg, rfl, G.gr, dgr, _, rfl, e27.at_ hgr, rfl, _, rfl, _, rfl, G.gr, G.w, G.rs, s.board, ca, q, l2, Vbsgae.nats u, rfl, hA1.grid.keep0 e27, (hcq.keep e6).keep e7, hqb, s2, bm2, fun H8 c8 h8 e8 => ?_⟩
  refine ⟨plD _, plD _, (h7.keep e8).dp, h8.dp, rfl, rfl, _, rfl, ?_⟩
  rw [plD_eqv]
  refine ite2 (fun hne => ?_) (fun hne => ?_)
  ·have hne' : ¬ Vbsgae.go s.board q (Vbsgae.nats v) = Vbsgae.go s.board q (Vbsgae.nats u) := by simpa using hne
   have hf : Vbsgae.sameMoves s.board (Vbsgae.nats v) (Vbsgae.nats u) = false := by
    rw [same_def, List.all_eq_false]
    exact ⟨q, List.mem_of_getElem? hq, by simpa using hne'⟩
   rw [hf] at F
   exact ⟨sz, fun m hm => F.one hA1 hR2 (e27.trans e8) hm⟩
  ·have he : Vbsgae.go s.board q (Vbsgae.nats v) = Vbsgae.go s.board q (Vbsgae.nats u) := by simpa using hne
   refine ⟨_, rfl, (e6.trans e7).trans e8, fun x hx => ?_⟩
   rw [take_snoc hq] at hx
   rcases List.mem_append.mp hx with hx | hx
   ·exact hall x hx
   ·have : x = q := by simpa using hx
    rw [this]
    exact he
 ·rintro σ H6 ⟨v4, rfl, e6, hall⟩
  have et : (Vbsgae.places s.board).take (as.map V.ref).length = Vbsgae.places s.board := by rw [List.length_map, plen pas]; exact List.take_length
  rw [et] at hall
  have hf : Vbsgae.sameMoves s.board (Vbsgae.nats v) (Vbsgae.nats u) = true := by
   rw [same_def, List.all_eq_true]
   exact fun x hx => by simpa using hall x hx
  rw [hf] at F
  exact ⟨sz, fun m hm => F.one hA1 hR2 (e25.trans e6) hm⟩
theorem okz9 (T : Txt K mg A) : FnOk P w K mg base CX0 6 A.az9 A.dz9 ["game", "reader"] (spCall K A 16) := by
 have GzL := okzL P w base T
 have Gzb := okzb P w base T
 have Gzi := okzi P w base T
 refine T.fz9.ok (k := 5) scz9 (fun vs H Q E h => ?_) (fun cdv Ar outer s H vs Q E hr h => ?_)
 ·obtain ⟨_, _, _, _, _, _, _, _, rfl, _⟩ := h; rfl
 obtain ⟨G, r, a, ns, i, s, c, t, rfl, hA, S, hR, hC, hr1, hr2, hcall, hask, k⟩ := h
 refine ⟨_, (pQ (ps_set (i := 2) scz9.nd rfl (Or.inl rfl) (pe_meth0 (pv 1) T.clReader T.mzL GzL (hr.mono (by decide : 2 ≤ 5)) T.bzL .nil pass0))
  (pQ (ps_set (i := 3) scz9.nd rfl (Or.inl rfl) (pe_meth0 (pv 1) T.clReader T.mzL GzL (hr.mono (by decide : 2 ≤ 5)) T.bzL .nil pass0))
  (pQ (ps_if (PW.pt (pw_or (pt_not (pt_val (pe_meth (pe_fld (pv 0) rfl) T.clGrid T.mzb Gzb (hr.mono (by decide : 1 ≤ 5)) T.bzb .nil pass0 (pA (pv 2) pZ)))) (pw_or1 (pt_not (pt_val (pe_meth (pe_fld (pv 0) rfl) T.clGrid T.mzb Gzb (hr.mono (by decide : 1 ≤ 5)) T.bzb .nil pass0 (pA (pv 3) pZ))))))) (pI (pY (pe_lst (pA (pe_glob (v := .int (-1)) rfl T.gxv ⟨_, rfl⟩) pZ)))) pss_nil)
  (pQ (ps_set (i := 4) scz9.nd rfl (Or.inl rfl) (pe_meth (pe_fld (pv 0) rfl) T.clGrid T.mzi Gzi (hr.mono (by decide : 5 ≤ 5)) T.bzi .nil pass0 (pA (pv 2) (pA (pv 3) pZ))))
  (pI (pY (pe_ifExp (pt_cmp (pc_isN (pv 4))) (pe_lst (pA pe_int pZ)) (pe_lst (pA pe_int (pA (pv 4) pZ)))))))))), ?_⟩
 obtain ⟨rfl, hn, rfl⟩ := dec0 (n := 4) rfl hcall
 obtain ⟨z, y, x, u, hz, hy, hx, hu', ht, hd⟩ := t4 hn
 rw [ht] at k
 rw [hd] at k
 obtain ⟨dx, hR'⟩ := hR
 refine ⟨_, rfl, r, dx, _, rfl, hR', rfl, r, a, ns, i, z, y, rfl, ⟨dx, hR'⟩, hC, hz, hy, fun H1 p hp hR1 e1 => ?_⟩
 have hC1 := hC.keepR e1 ⟨dx, hR'⟩
 obtain ⟨dx1, hR1'⟩ := hR1
 refine ⟨_, rfl, r, dx1, _, rfl, hR1', rfl, r, a, ns, i + 2, x, u, rfl, ⟨dx1, hR1'⟩, hC1, hx, hu', fun H2 p2 hp2 hR2 e2 => ?_⟩
 have e12 := e1.trans e2
 have F : Fin A Q G r a (i + 4) H2 (Vbsgae.step s (.steps z y x u)) := fin_of k e12 rfl
 have hA1 := hA.keepR e12 ⟨dx, hR'⟩ hr1 hr2
 have hp1 := hp.keep e2
 obtain ⟨dg, hg⟩ := hA1.ins
 obtain ⟨dgr, hgr⟩ := hA1.grid.ins
 have no : (Vbsgae.isPlace s z y && Vbsgae.isPlace s x u) = false → Fin A Q G r a (i + 4) H2 (s, [-1]) := fun h => by
  have := F
  unfold Vbsgae.step at this
  dsimp only at this
  rw [asked_no h] at this
  exact this
 refine ⟨_, rfl, G.g, A.cGame, dg, _, _, rfl, hg, T.clGame, T.nGg, rfl, G.gr, dgr, _, rfl, hgr, rfl, _, rfl, G.gr, G.w, G.rs, s.board, p, z, y, rfl, hA1.grid, hp1, _, rfl, ite2 (fun h => ?_) (fun h => ?_)⟩
 ·have h' : Vbsgae.isPlace s z y = false := by simpa [isPlace_eq] using h
  exact iteT ⟨sz, fun q hq => (no (by rw [h']; rfl)).one hA1 hR2 (.refl _ _) hq⟩
 have h' : hasZ s.board z y = true := by simpa using h
 refine ⟨_, rfl, G.g, A.cGame, dg, _, _, rfl, hg, T.clGame, T.nGg, rfl, G.gr, dgr, _, rfl, hgr, rfl, _, rfl, G.gr, G.w, G.rs, s.board, p2, x, u, rfl, hA1.grid, hp2, _, rfl, ite2 (fun h2 => ?_) (fun h2 => ?_)⟩
 ·have h2' : Vbsgae.isPlace s x u = false := by simpa [isPlace_eq] using h2
  exact ⟨sz, fun q hq => (no (by rw [h2', Bool.and_false])).one hA1 hR2 (.refl _ _) hq⟩
 have h2' : hasZ s.board x u = true := by simpa using h2
 have F : Fin A Q G r a (i + 4) H2 (match Vbsgae.steps s.board (z.toNat, y.toNat) (x.toNat, u.toNat) with
    | some n => (s, [1, Int.ofNat n])
    | none => (s, [0])) := by
  have := F
  unfold Vbsgae.step at this
  dsimp only at this
  rw [asked_yes (by rw [isPlace_eq, isPlace_eq, h', h2']; rfl), asked_nil] at this
  exact this
 obtain ⟨q, rfl, rfl, hq⟩ := hasZ_iff.mp h'
 obtain ⟨q2, rfl, rfl, hq2⟩ := hasZ_iff.mp h2'
 rw [Int.toNat_natCast, Int.toNat_natCast, Int.toNat_natCast, Int.toNat_natCast] at F
 refine ⟨_, rfl, G.g, A.cGame, dg, _, _, rfl, hg, T.clGame, T.nGg, rfl, G.gr, dgr, _, rfl, hgr, rfl, _, rfl, _, rfl, G.gr, G.w, G.rs, s.board, p, p2, q, q2, rfl, hA1.grid, S.good, hp1, hp2, hq, fun H3 e3 => ?_⟩
 cases es : Vbsgae.steps s.board (q.1, q.2) (q2.1, q2.2) with
 | none =>
  rw [es] at F
  exact ⟨_, rfl, _, rfl, iteT ⟨sz, fun m hm => Fin.one F hA1 hR2 e3 hm⟩⟩
 | some n =>
  rw [es] at F
  exact ⟨_, rfl, _, rfl, iteF ⟨_, rfl, sz, fun m hm => Fin.same (s := s) F rfl hA1 hR2 (e3.trans (.new hm)) uS⟩⟩
theorem okya (T : Txt K mg A) : FnOk P w K mg base CX0 2 A.aya A.dya ["game", "reader"] (spCall K A 17) := by
 have Gzs := okzs P w base T
 refine T.fya.ok (k := 1) scya (fun vs H Q E h => ?_) (fun cdv Ar outer s H vs Q E hr h => ?_)
 ·obtain ⟨_, _, _, _, _, _, _, _, rfl, _⟩ := h; rfl
 obtain ⟨G, r, a, ns, i, s, c, t, rfl, hA, S, hR, hC, hr1, hr2, hcall, hask, k⟩ := h
 refine ⟨_, (pQ (ps_if (pt_not (pt_truth (pe_fld (pv 0) rfl) (fun _ => rfl))) (pI (pY (pe_lst (pA (pe_glob (v := .int (-7)) rfl T.gxB ⟨_, rfl⟩) pZ)))) pss_nil)
  (pQ (ps_expr (pe_meth0 (pv 0) T.clGame T.mzs Gzs (hr.mono (by decide : 1 ≤ 1)) T.bzs .nil pass0))
  (pI (pY (pe_lst (pA (pe_callB call_len_seq (by rfl) T.nlen bt_len (pA (pe_fld (pv 0) rfl) pZ)) pZ)))))), ?_⟩
 obtain ⟨rfl, -, rfl⟩ := dec0 (n := 0) rfl hcall
 have F : Fin A Q G r a i H (match s.past with
    | [] => (s, [-7])
    | t :: r => (⟨s.board, t, r⟩, [Int.ofNat r.length])) := fin_of k (.refl _ _) rfl
 obtain ⟨dg, hg⟩ := hA.ins
 have hpl : G.past.length = s.past.length := by have := plen hA.past; rw [List.length_reverse] at this; exact this
 refine ⟨_, rfl, G.g, A.cGame, dg, _, _, rfl, hg, T.clGame, T.nGp, rfl, _, .inl ⟨_, SqL.of hA.pst, rfl⟩, ite2 (fun h => ?_) (fun h => ?_)⟩
 ·have hn : s.past = [] := by
   cases e : G.past with
   | nil => rw [e] at hpl; exact List.length_eq_zero_iff.mp hpl.symm
   | cons x l => rw [e] at h; cases h
  rw [hn] at F
  exact ⟨sz, fun q hq => Fin.one F hA hR (.refl _ _) hq⟩
 obtain ⟨t1, tr, hp⟩ : ∃ t1 tr, s.past = t1 :: tr := by
  cases e : s.past with
  | nil =>
   rw [e] at hpl
   have : G.past = [] := List.length_eq_zero_iff.mp hpl
   rw [this] at h
   exact absurd rfl h
  | cons x l => exact ⟨x, l, rfl⟩
 rw [hp] at F
 refine ⟨_, rfl, G.g, dg, _, rfl, hg, rfl, G, s, t1, tr, rfl, hA, hp, fun H1 cur past hA1 e1 hm => ?_⟩
 obtain ⟨dg1, hg1⟩ := hA1.ins
 refine ⟨_, rfl, G.g, A.cGame, dg1, _, _, rfl, hg1, T.clGame, T.nGp, rfl, G.ps, _, rfl, .inl (SqL.of hA1.pst), sz, fun p hp1 => ?_⟩
 have er : r ∉ [G.g, G.ps] := fun q => hr1 (by
  have : r = G.g ∨ r = G.ps := by simpa using q
  rcases this with e | e
  ·rw [e]; exact .head _
  ·rw [e]; exact .tail _ (.head _))
 refine F _ { G with cur := cur, past := past } p rfl (hA1.keep0 (.new hp1)) ((hR.keep e1 er).keep0 (.new hp1)) ?_ ((e1.mono ?_).trans (.new hp1)) fun x hx => ?_
 ·rw [uS]
  have : (past.map fun x => V.ref x.m).length = tr.length := by
   rw [List.length_map]
   have := plen hA1.past
   rw [List.length_reverse] at this
   exact this
  show some (HO.lst [.int (((past.map fun x => V.ref x.m).length : Nat) : Int)]) = _
  rw [this]
  rfl
 ·intro x hx
  have : x = G.g ∨ x = G.ps := by simpa using hx
  rcases this with e | e
  ·rw [e]; exact .tail _ (.head _)
  ·rw [e]; exact .tail _ (.tail _ (.head _))
 ·rcases List.mem_append.mp hx with hx | hx
  ·exact .inl (List.mem_append_left _ (hm x hx))
  ·exact .inl (List.mem_append_right _ hx)
theorem okyb (T : Txt K mg A) : FnOk P w K mg base CX0 3 A.ayb A.dyb ["game", "reader"] (spCall K A 18) := by
 have GzM := okzM P w base T
 have GzR := okzR P w base T
 have GzP := okzP P w base T
 refine T.fyb.ok (k := 2) scyb (fun vs H Q E h => ?_) (fun cdv Ar outer s H vs Q E hr h => ?_)
 ·obtain ⟨_, _, _, _, _, _, _, _, rfl, _⟩ := h; rfl
 obtain ⟨G, r, a, ns, i, s, c, t, rfl, hA, S, hR, hC, hr1, hr2, hcall, hask, k⟩ := h
 refine ⟨_, (pQ (ps_set (i := 2) scyb.nd rfl (Or.inr rfl) (pe_meth0 (pv 1) T.clReader T.mzM GzM (hr.mono (by decide : 2 ≤ 2)) T.bzM .nil pass0))
  (pQ (ps_if (pt_not (pt_val (pe_call GzR (hr.mono (by decide : 1 ≤ 2)) rfl T.gzR T.fzR.kp T.bzR .nil pass0 (pA (pv 2) pZ)))) (pI (pY (pe_lst (pA (pe_glob (v := .int (-2)) rfl T.gxw ⟨_, rfl⟩) pZ)))) pss_nil)
  (pI (pY (pe_lst (pA (pe_callB (cr_sum rfl) (by rfl) T.nsum bt_sum (pA (pe_lock (pe_lc (own := [("company", 3)]) rfl scyb.nd (pi_keys (pe_fld (pe_fld (pv 0) rfl) rfl)) (blkOk_by rfl) (by intro s H C cl fp; exact pg_name (i := 3) scyb.nd rfl (Or.inl rfl)) (by intro s H C cl fp; exact pts_nil) (by intro s H C cl fp; exact (pe_op op_mul (pe_call GzP (hr.mono (by decide : 2 ≤ 2)) rfl T.gzP T.fzP.kp T.bzP .nil pass0 (pA (pv 0) (pA (pv 3) pZ))) (pe_ix (ix_listK (K := K) rfl) (pv 2) (pe_op op_sub (pv 3) pe_int) (fun _ _ => rfl)))))) pZ)) pZ)))))), ?_⟩
 obtain ⟨z0, r2, hd0, h0, hz0, rfl, hn, rfl⟩ := dec1 (n := 0) rfl hcall
 rw [List.drop_zero] at hd0
 rw [tRow hd0] at k
 have h70 : (r2.take z0.toNat).length ≤ 70 := w60_len hask
 generalize hlst : r2.take z0.toNat = lst at *
 obtain ⟨dx, hR'⟩ := hR
 refine ⟨_, rfl, r, dx, _, rfl, hR', rfl, r, a, ns, i, z0, r2, rfl, ⟨dx, hR'⟩, hC, hd0, h0, hz0, fun H1 l hl nl hR1 e1 => ?_⟩
 rw [hlst] at hl
 have F : Fin A Q G r a (i + 1 + z0.toNat) H1 (Vbsgae.step s (.worth lst)) := fin_of k e1 rfl
 have hA1 := hA.keepR e1 ⟨dx, hR'⟩ hr1 hr2
 refine ⟨_, rfl, l, lst, rfl, SqL.of hl, by omega, fun H2 e2 => ⟨_, rfl, ite2 (fun h => ?_) (fun h => ?_)⟩⟩
 ·have h' : (decide (lst.length = Vbsgae.COMPANIES) && lst.all fun n => Vbsgae.between 0 n 1000000) = false := Bool.not_eq_true' _ |>.mp h
  have F : Fin A Q G r a (i + 1 + z0.toNat) H1 (s, [-2]) := by
   have := F
   unfold Vbsgae.step at this
   dsimp only at this
   rw [asked_no h'] at this
   exact this
  exact ⟨sz, fun q hq => F.one hA1 hR1 e2 hq⟩
 have h' : (decide (lst.length = Vbsgae.COMPANIES) && lst.all fun n => Vbsgae.between 0 n 1000000) = true := by
  cases e : (decide (lst.length = Vbsgae.COMPANIES) && lst.all fun n => Vbsgae.between 0 n 1000000) with
  | true => rfl
  | false => exact absurd (show (!(decide (lst.length = Vbsgae.COMPANIES) && lst.all fun n => Vbsgae.between 0 n 1000000)) = true by rw [e]; rfl) h
 have hl8 : lst.length = 8 := by
  rw [Bool.and_eq_true] at h'
  exact of_decide_eq_true h'.1
 have F : Fin A Q G r a (i + 1 + z0.toNat) H1 (s, [(s.table.markers.map fun m => ((Vbsgae.cellAt s.board m.place).price : Int) * lst.getD (m.company - 1) 0).sum]) := by
  have := F
  unfold Vbsgae.step at this
  dsimp only at this
  rw [asked_yes h', asked_nil, ← worth_eq S.tab hl8] at this
  exact this
 have hA2 := hA1.keep0 e2
 obtain ⟨dg, hg⟩ := hA2.ins
 obtain ⟨dgr, hgr⟩ := hA2.grid.ins
 obtain ⟨kvs, hT, hp'⟩ := hA2.cur
 obtain ⟨dm, hm⟩ := hT.ins
 have hl2 := e2.at_ hl
 refine ⟨G.cur.pl, .dK kvs, hp', trivial, fun od => ?_⟩
 have ef : Kp [G.cur.pl] H2 (upd H2 G.cur.pl (.frz od (.dK kvs))) := .put (.head _) hp' fun _ z => nomatch z
 have nn : ∀ {x : Addr} {o : HO}, H2 x = some o → (∀ kv, o ≠ .dK kv) → upd H2 G.cur.pl (.frz od (.dK kvs)) x = some o := fun {x o} h q => (uN (ne_of h hp' fun z => q _ z)).trans h
 have hgf := nn hg fun _ z => nomatch z
 have hmf := nn hm fun _ z => nomatch z
 have hlf := nn hl2 fun _ z => nomatch z
 have hclf := nn hT.clo fun _ z => nomatch z
 have hgrf : GridA A (upd H2 G.cur.pl (.frz od (.dK kvs))) G.gr G.w G.rs s.board := hA2.grid.keep ef (fun q => hA2.dis _ (.head _) (mut_fp (.head _) _ (by
   have : G.gr = G.cur.pl := by simpa using q
   rw [this]; exact .tail _ (.head _)))) (fun q => hA2.dis _ (.tail _ (.head _)) (mut_fp (.head _) _ (by
   have : G.w = G.cur.pl := by simpa using q
   rw [this]; exact .tail _ (.head _)))) fun x hx q => hA2.dis x (.tail _ (.tail _ hx)) (mut_fp (.head _) _ (by
   have : x = G.cur.pl := by simpa using q
   rw [this]; exact .tail _ (.head _)))
 have hTf : TabR A (upd H2 G.cur.pl (.frz od (.dK kvs))) G.cur s.table kvs := ⟨⟨dm, hmf⟩, .inr ⟨od, uS⟩, kv_keep ef hT.kv, hclf⟩
 have hpf : upd H2 G.cur.pl (.frz od (.dK kvs)) G.cur.pl = some (.frz od (.dK kvs)) := uS
 generalize hHf : upd H2 G.cur.pl (.frz od (.dK kvs)) = Hf at *
 refine ⟨_, rfl, G.g, A.cGame, dg, _, _, rfl, hgf, T.clGame, T.nGm, rfl, G.cur.m, A.cMarkers, dm, _, _, rfl, hmf, T.clMarkers, T.nMp, rfl, G.cur.pl, od, rfl, .inl ⟨kvs, hpf, ?_⟩⟩
 intro D hD
 refine lc_keys (fun j H3 => H3 D = some (.lst (iVs ((s.table.markers.take j).map fun m => ((Vbsgae.cellAt s.board m.place).price : Int) * lst.getD (m.company - 1) 0))) ∧ Kp [] Hf H3) ⟨uS, .new hD⟩ ?_ ?_ ?_
 ·rintro j H3 _ ⟨q1, e3⟩
  exact e3.at_ hpf
 ·rintro j ky v H3 hk ⟨q1, e3⟩
  obtain ⟨m, am, q2, rfl, rfl, q3⟩ := kv_at hTf.kv hk
  have hmm := List.mem_of_getElem? q2
  obtain ⟨a', q4, q5⟩ := kv_some (c := m.company) hTf.kv (find_nd S.tab.nd hmm)
  have hco := S.tab.co m hmm
  have hpb := S.tab.pl m hmm
  have cg := cell_good S.good hpb
  obtain ⟨sh, hsh⟩ : ∃ sh, lst[m.company - 1]? = some sh := ⟨_, List.getElem?_eq_getElem (by omega)⟩
  refine ⟨rfl, yesI ⟨_, rfl, _, rfl, G.g, G.gr, G.ps, G.w, G.rs, s.board, G.cur, s.table, kvs, _, a', m.place, rfl, ⟨dg, e3.at_ hgf⟩, hTf.keep0 e3, hgrf.keep0 e3, q4, q5.keep e3, hpb, _, rfl, _, rfl, _, _, rfl, rfl, l, _, _, V.int sh, rfl, rfl, SqL.of (e3.at_ hlf), at_of (j := m.company - 1) (by omega) (map_get hsh), _, _, rfl, rfl, .inl ⟨?_, ?_⟩, _, q1, szlt ?_, ?_, e3.put_new hD⟩⟩
  ·show -(2 ^ 64 : Int) < _
   omega
  ·show _ < (2 ^ 64 : Int)
   have := cg.p2
   omega
  ·rw [List.length_map, List.length_map, List.length_take]
   have := S.tab.len
   omega
  ·rw [uS, take_snoc q2, List.map_append, iV_app]
   have : lst.getD (m.company - 1) 0 = sh := by rw [List.getD_eq_getElem?_getD, hsh]; rfl
   rw [List.map_cons, List.map_nil, this]
   rfl
 ·rintro H3 ⟨q1, e3⟩
  rw [plen hTf.kv, List.take_length] at q1
  refine ⟨e3.at_ hpf, ?_⟩
  have nD : D ≠ G.cur.pl := (ne_of_none hpf hD).symm
  have eu : Kp [] H2 (upd H3 G.cur.pl (.dK kvs)) := by
   rw [← hHf] at e3
   exact Kp.unlock hp' e3
  refine ⟨D, _, rfl, SqL.of ((uN nD).trans q1), sz, fun p hp => ?_⟩
  exact F.one hA1 hR1 (e2.trans eu) hp
end
end Pb
namespace Pb
open PySem PySem.Spec PyProof.Rows L2 Vb
open Vbsgae (Cell Board Marker Table State)
section
variable (P : Program) (w : World) {K : W.Frag} {mg : Str → Option Value} (base : Heap) {A : Adr}
theorem ok_4 : okMs [4] := fun x hx => by
 have : x = 4 := by simpa using hx
 omega
theorem ok_2 : okMs [2] := fun x hx => by
 have : x = 2 := by simpa using hx
 omega
theorem ok_22 : okMs [2, 2] := fun x hx => by
 have : x = 2 := by simpa using hx
 omega
theorem rep_flat (n x : Nat) : (List.replicate n [nV x]).flatten = nVs (List.replicate n x) := by
 induction n with
 | zero => rfl
 | succ n ih =>
  rw [List.replicate_succ, List.flatten_cons, ih]
  rfl
theorem nat_bytes {l : List Int} (h : l.all (fun (z : Int) => VbsgaeNeutral.natural z 8) = true) : iVs l = nVs (VbsgaeNeutral.nats l) := by
 show l.map V.int = (l.map Int.toNat).map nV
 rw [List.map_map]
 refine List.map_congr_left fun z hz => ?_
 have := List.all_eq_true.mp h z hz
 unfold VbsgaeNeutral.natural at this
 rw [Bool.and_eq_true] at this
 have h0 : 0 ≤ z := of_decide_eq_true this.1
 show V.int z = V.int ((z.toNat : Nat) : Int)
 rw [show ((z.toNat : Nat) : Int) = z by omega]
theorem Fin.sent {Q : VK} {G : GA} {r a : Addr} {i c : Nat} {H1 H2 : Hp} {s : State} {ms : List Nat} (F : Fin A Q G r a i H1 (Vbsgae.told (Vbsgae.moved s c ms) c)) (hR : ReaderA A H1 r a i) (hr1 : r ∉ G.mut A) (e : Kp [] H1 H2) :
  ∀ (H' : Hp) (G' : GA) (p : Addr), G'.g = G.g → GameA A H' G' (Vbsgae.moved s c ms) → H' p = some (.lst [nV (Vbsgae.priceOf (Vbsgae.moved s c ms) c)]) → Kp (G.mut A) H2 H' →
  (∀ x ∈ G'.mut A ++ G'.fix, x ∈ G.mut A ++ G.fix ∨ H2 x = none) → Q (.ref p) H' := fun H' G' p h1 h2 h3 h4 h5 =>
 (F.move e) H' G' p h1 h2 ((hR.keep0 e).keep h4 hr1) h3 (h4.mono fun x hx => .tail _ hx) h5
theorem okzT (T : Txt K mg A) : FnOk P w K mg base CX0 6 A.azT A.dzT ["game", "reader"] (spCall K A 0) := by
 have GzM := okzM P w base T
 have GzF := okzF P w base T
 have Gzq := okzq P w base T
 have Gza := okza P w base T
 refine T.fzT.ok (k := 5) sczT (fun vs H Q E h => ?_) (fun cdv Ar outer s H vs Q E hr h => ?_)
 ·obtain ⟨_, _, _, _, _, _, _, _, rfl, _⟩ := h; rfl
 obtain ⟨G, r, a, ns, i, s, c, t, rfl, hA, S, hR, hC, hr1, hr2, hcall, hask, k⟩ := h
 refine ⟨_, (pQ (ps_set (i := 2) sczT.nd rfl (Or.inl rfl) (pe_meth0 (pv 1) T.clReader T.mzM GzM (hr.mono (by decide : 2 ≤ 5)) T.bzM .nil pass0))
  (pQ (ps_if (pt_cmpR op_gt (pe_callB call_len_seq (by rfl) T.nlen bt_len (pA (pv 2) pZ)) (pe_glob (v := .int (4000)) rfl T.gxE ⟨_, rfl⟩) (nomark _)) (pI (pY (pe_lst (pA (pe_glob (v := .int (-2)) rfl T.gxw ⟨_, rfl⟩) pZ)))) pss_nil)
  (pQ (ps_set (i := 3) sczT.nd rfl (Or.inl rfl) (pe_call GzF (hr.mono (by decide : 5 ≤ 5)) rfl T.gzF T.fzF.kp T.bzF .nil pass0 (pA (pv 2) pZ)))
  (pQ (ps_if (pt_cmpR op_gt (pe_fld (pv 3) rfl) pe_int (nomark _)) (pI (pY (pe_lst (pA (pe_op op_sub (pe_glob (v := .int (-100)) rfl T.gxC ⟨_, rfl⟩) (pe_fld (pv 3) rfl)) pZ)))) pss_nil)
  (pQ (ps_expr (pe_meth (pv 0) T.clGame T.mzq Gzq (hr.mono (by decide : 3 ≤ 5)) T.bzq .nil pass0 (pA (pe_make T.mkGrid Gza (hr.mono (by decide : 2 ≤ 5)) rfl T.gGrid T.bza .nil pass0 (pA (pe_fld (pv 3) rfl) pZ)) pZ)))
  (pI (pY (pe_lst (pA (pe_callB call_len_seq (by rfl) T.nlen bt_len (pA (pe_fld (pv 3) rfl) pZ)) pZ))))))))), ?_⟩
 obtain ⟨z0, r2, hd0, h0, hz0, rfl, hn, rfl⟩ := dec1 (n := 0) rfl hcall
 rw [List.drop_zero] at hd0
 rw [tRow hd0] at k
 have hask' : ((r2.take z0.toNat).all (fun (z : Int) => VbsgaeNeutral.natural z 8) && decide ((r2.take z0.toNat).length ≤ 5000)) = true := hask
 generalize hlst : r2.take z0.toNat = lst at *
 rw [Bool.and_eq_true] at hask'
 have h5000 : lst.length ≤ 5000 := of_decide_eq_true hask'.2
 have hnb := nat_bytes hask'.1
 obtain ⟨dx, hR'⟩ := hR
 refine ⟨_, rfl, r, dx, _, rfl, hR', rfl, r, a, ns, i, z0, r2, rfl, ⟨dx, hR'⟩, hC, hd0, h0, hz0, fun H1 l hl nl hR1 e1 => ?_⟩
 rw [hlst] at hl
 have F : Fin A Q G r a (i + 1 + z0.toNat) H1 (Vbsgae.step s (.load (VbsgaeNeutral.nats lst))) := fin_of k e1 rfl
 have hA1 := hA.keepR e1 ⟨dx, hR'⟩ hr1 hr2
 have hnl : (VbsgaeNeutral.nats lst).length = lst.length := List.length_map _
 refine ⟨_, rfl, l, _, rfl, .inl (SqL.of hl), _, _, rfl, rfl, _, rfl, ite2 (fun h => ?_) (fun h => ?_)⟩
 ·have h' : (4000 : Int) < ((iVs lst).length : Int) := dT h
  rw [List.length_map] at h'
  have F : Fin A Q G r a (i + 1 + z0.toNat) H1 (s, [-2]) := by
   have := F
   unfold Vbsgae.step at this
   dsimp only at this
   rw [asked_no (decide_eq_false (by show ¬ _ ≤ 4000; omega))] at this
   exact this
  exact ⟨sz, fun q hq => F.one hA1 hR1 (.refl _ _) hq⟩
 have h' : ¬ (4000 : Int) < ((iVs lst).length : Int) := dF h
 rw [List.length_map] at h'
 have F : Fin A Q G r a (i + 1 + z0.toNat) H1 (if (Vbsgae.read (VbsgaeNeutral.nats lst)).2 = 0 then (⟨(Vbsgae.read (VbsgaeNeutral.nats lst)).1, Vbsgae.empty, []⟩, [Int.ofNat (Vbsgae.read (VbsgaeNeutral.nats lst)).1.length]) else (s, [-100 - Int.ofNat (Vbsgae.read (VbsgaeNeutral.nats lst)).2])) := by
  have := F
  unfold Vbsgae.step at this
  dsimp only at this
  rw [asked_yes (decide_eq_true (by show _ ≤ 4000; omega)), asked_nil] at this
  exact this
 refine ⟨_, rfl, l, VbsgaeNeutral.nats lst, rfl, by rw [← hnb]; exact SqL.of hl, by omega, fun H2 q dq w1 rs hq hrows e2 => ?_⟩
 generalize hrd : Vbsgae.read (VbsgaeNeutral.nats lst) = rd at *
 refine ⟨_, rfl, q, A.cReading, dq, _, _, rfl, hq, T.clReading, T.nRw, rfl, _, _, rfl, rfl, _, rfl, ite2 (fun h2 => ?_) (fun h2 => ?_)⟩
 ·have h2' : (0 : Int) < (rd.2 : Int) := dT h2
  rw [if_neg (by omega)] at F
  exact ⟨_, rfl, q, A.cReading, dq, _, _, rfl, hq, T.clReading, T.nRw, rfl, _, _, rfl, rfl, sz, fun p hp => F.one hA1 hR1 e2 hp⟩
 have h2' : ¬ (0 : Int) < (rd.2 : Int) := dF h2
 have hr0 : rd.2 = 0 := by omega
 rw [if_pos hr0] at F
 obtain ⟨hRows, hnew⟩ := hrows hr0
 have hA2 := hA1.keep0 e2
 obtain ⟨dg, hg⟩ := hA2.ins
 refine ⟨_, rfl, G.g, dg, _, rfl, hg, rfl, _, rfl, q, A.cReading, dq, _, _, rfl, hq, T.clReading, T.nRr, rfl, ?_⟩
 intro gr dgr ngr ndgr _
 refine ⟨gr, dgr, w1, rfl, uS, fun H3 hgr kp3 => ⟨rfl, ?_⟩⟩
 have e3 : Kp [] H2 H3 := .made ngr ndgr kp3
 have hA3 := hA2.keep0 e3
 have e13 := e2.trans e3
 have hnewx : ∀ x ∈ gr :: w1 :: rs, H1 x = none := fun x hx => by
  rcases List.mem_cons.mp hx with rfl | hx
  ·exact e2.dom _ ngr
  ·exact hnew x hx
 have hdis : ∀ x ∈ gr :: w1 :: rs, x ∉ G.mut A := fun x hx q => by
  obtain ⟨o, ho⟩ := hA1.ats x (List.mem_append_left _ q)
  rw [hnewx x hx] at ho
  cases ho
 refine ⟨G, s, gr, w1, rs, rd.1, rfl, hA3, ⟨⟨dgr, hgr⟩, hRows.keep0 e3⟩, hdis, fun H4 cur ps hA4 e4 hfr => ?_⟩
 have hq3 := e3.at_ hq
 have hw3 := e3.at_ hRows.at_
 have hg3 := e3.at_ hg
 have nqg : q ≠ G.g := ne_of hq3 hg3 (by
  intro z
  injection z with _ _ z
  injection z with z _
  injection z with z _
  exact absurd z (by decide))
 have nwg : w1 ≠ G.g := ne_of hw3 hg3 fun z => nomatch z
 have hq4 := e4.kp _ _ hq3 (by simpa using nqg)
 have hw4 := e4.kp _ _ hw3 (by simpa using nwg)
 have hrg : r ∉ [G.g] := fun z => hr1 (by
  have : r = G.g := by simpa using z
  rw [this]
  exact .head _)
 refine ⟨_, rfl, q, A.cReading, dq, _, _, rfl, hq4, T.clReading, T.nRr, rfl, w1, _, rfl, .inl (SqL.of hw4), sz, fun p hp => ?_⟩
 refine F _ ⟨G.g, gr, w1, rs, cur, ps, []⟩ p rfl (hA4.keep0 (.new hp)) (((hR1.keep0 e13).keep e4 hrg).keep0 (.new hp)) ?_ ((e13.any.trans (e4.mono fun x hx => ?_)).trans (.new hp)) fun x hx => ?_
 ·rw [uS]
  have : (rs.map V.ref).length = rd.1.length := by rw [List.length_map]; exact plen hRows.rows
  rw [this]
  rfl
 ·have : x = G.g := by simpa using hx
  rw [this]
  exact .tail _ (.head _)
 ·rcases List.mem_append.mp hx with hx | hx
  ·have hx' : x = G.g ∨ x = ps ∨ x = A.pT ∨ x ∈ cur.fp := by
    unfold GA.mut at hx
    simpa using hx
   rcases hx' with e | e | e | e
   ·exact .inl (List.mem_append_left _ (by rw [e]; exact .head _))
   ·exact .inr (e13.dom _ (hfr x (by rw [e]; exact .head _)))
   ·exact .inl (List.mem_append_left _ (by rw [e]; exact .tail _ (.tail _ (.head _))))
   ·exact .inr (e13.dom _ (hfr x (.tail _ e)))
  ·exact .inr (hnewx x hx)
theorem okzX (T : Txt K mg A) : FnOk P w K mg base CX0 6 A.azX A.dzX ["game", "reader"] (spCall K A 4) := by
 have GzK := okzK P w base T
 have GzO := okzO P w base T
 have GzS := okzS P w base T
 refine T.fzX.ok (k := 5) sczX (fun vs H Q E h => ?_) (fun cdv Ar outer s H vs Q E hr h => ?_)
 ·obtain ⟨_, _, _, _, _, _, _, _, rfl, _⟩ := h; rfl
 obtain ⟨G, r, a, ns, i, s, c, t, rfl, hA, S, hR, hC, hr1, hr2, hcall, hask, k⟩ := h
 refine ⟨_, (pQ (ps_set (i := 2) sczX.nd rfl (Or.inl rfl) (pe_meth0 (pv 1) T.clReader T.mzK GzK (hr.mono (by decide : 1 ≤ 5)) T.bzK .nil pass0))
  (pQ (ps_set (i := 3) sczX.nd rfl (Or.inl rfl) (pe_meth0 (pv 1) T.clReader T.mzK GzK (hr.mono (by decide : 1 ≤ 5)) T.bzK .nil pass0))
  (pQ (ps_if (pt_not (pt_val (pe_call GzO (hr.mono (by decide : 1 ≤ 5)) rfl T.gzO T.fzO.kp T.bzO .nil pass0 (pA (pv 0) (pA (pv 2) pZ))))) (pI (pY (pe_lst (pA (pe_glob (v := .int (-1)) rfl T.gxv ⟨_, rfl⟩) pZ)))) pss_nil)
  (pQ (ps_if (pt_not (pt_chain op_le op_le pe_int (pv 3) (pe_glob (v := .int (10)) rfl T.gxF ⟨_, rfl⟩))) (pI (pY (pe_lst (pA (pe_glob (v := .int (-2)) rfl T.gxw ⟨_, rfl⟩) pZ)))) pss_nil)
  (pI (pY (pe_call GzS (hr.mono (by decide : 5 ≤ 5)) rfl T.gzS T.fzS.kp T.bzS .nil pass0 (pA (pv 0) (pA (pv 2) (pA (pe_op op_rep (pe_lst (pA (pe_glob (v := .int (3)) rfl T.gxc ⟨_, rfl⟩) pZ)) (pv 3)) pZ)))))))))), ?_⟩
 obtain ⟨rfl, hn, rfl⟩ := dec0 (n := 2) rfl hcall
 obtain ⟨z, y, hz, hy, ht, hd⟩ := t2 hn
 rw [ht] at k
 rw [hd] at k
 obtain ⟨dx, hR'⟩ := hR
 refine ⟨_, rfl, r, dx, _, rfl, hR', rfl, r, a, ns, i, z, rfl, ⟨dx, hR'⟩, hC, hz, fun H1 hR1 e1 => ?_⟩
 have hC1 := hC.keepR e1 ⟨dx, hR'⟩
 obtain ⟨dx1, hR1'⟩ := hR1
 refine ⟨_, rfl, r, dx1, _, rfl, hR1', rfl, r, a, ns, i + 1, y, rfl, ⟨dx1, hR1'⟩, hC1, hy, fun H2 hR2 e2 => ?_⟩
 have e12 := e1.trans e2
 have F : Fin A Q G r a (i + 2) H2 (Vbsgae.step s (.sell z y)) := fin_of k e12 rfl
 have hA1 := hA.keepR e12 ⟨dx, hR'⟩ hr1 hr2
 obtain ⟨kvs, hT, hp'⟩ := hA1.cur
 have hon := kv_on hT S.tab z
 refine ⟨_, rfl, _, rfl, G.g, G.gr, G.ps, G.cur, s.table, kvs, z, rfl, hA1.ins, hT, _, rfl, ?_⟩
 rw [hon]
 refine ite2 (fun h => ?_) (fun h => ?_)
 ·have h' : Vbsgae.onBoard s z = false := by simpa using h
  have F : Fin A Q G r a (i + 2) H2 (s, [-1]) := by
   have := F
   unfold Vbsgae.step at this
   dsimp only at this
   rw [asked_no h'] at this
   exact this
  exact ⟨sz, fun q hq => F.one hA1 hR2 (.refl _ _) hq⟩
 have h' : Vbsgae.onBoard s z = true := by simpa using h
 have no : Vbsgae.between 1 y 10 = false → Fin A Q G r a (i + 2) H2 (s, [-2]) := fun hb => by
  have := F
  unfold Vbsgae.step at this
  dsimp only at this
  rw [asked_yes h', asked_no hb] at this
  exact this
 refine ⟨_, rfl, _, _, rfl, rfl, _, rfl, ite2 (fun h2 => ?_) (fun h2 => ?_)⟩
 ·refine ⟨_, _, rfl, rfl, _, rfl, ite2 (fun h3 => ?_) (fun h3 => ?_)⟩
  ·have h3' : ¬ y ≤ 10 := by simpa using h3
   exact ⟨sz, fun q hq => (no (by unfold Vbsgae.between; rw [decide_eq_false h3', Bool.and_false])).one hA1 hR2 (.refl _ _) hq⟩
  ·have h3' : y ≤ 10 := by simpa using h3
   have h2' : 1 ≤ y := dT h2
   have F : Fin A Q G r a (i + 2) H2 (Vbsgae.told (Vbsgae.moved s z.toNat (List.replicate y.toNat 3)) z.toNat) := by
    have := F
    unfold Vbsgae.step at this
    dsimp only at this
    rw [asked_yes h', asked_yes (by unfold Vbsgae.between; rw [decide_eq_true h2', decide_eq_true h3']; rfl), asked_nil] at this
    exact this
   obtain ⟨c, m, a1, rfl, e2', e3', e4', e5', e6', e7', e8'⟩ := onT hT S h'
   rw [e2'] at F
   refine ⟨_, rfl, _, rfl, sz, fun l0 hl0 => ⟨_, rfl, l0, _, _, rfl, rfl, uS, by omega, by omega, sz ?_, fun l hl => ?_⟩⟩
   ·show 1 * y.toNat ≤ _
    omega
   have e3 : Kp [] H2 (upd (upd H2 l0 (.lst [.int 3])) l (.lst (List.replicate y.toNat [V.int 3]).flatten)) := (Kp.new hl0).trans (.new hl)
   have hrf : (List.replicate y.toNat [V.int 3]).flatten = nVs (List.replicate y.toNat 3) := rep_flat _ 3
   refine ⟨G, s, c, l, List.replicate y.toNat 3, m, rfl, hA1.keep0 e3, S, e3', ?_, ?_, ?_, F.sent hR2 hr1 e3⟩
   ·rw [← hrf]
    exact SqL.of uS
   ·intro q
    obtain ⟨o, ho⟩ := (hA1.keep0 (.new (o := .lst [.int 3]) hl0)).ats l (List.mem_append_left _ q)
    rw [hl] at ho
    cases ho
   ·intro x hx
    have : x = 3 := List.eq_of_mem_replicate hx
    omega
 ·have h2' : ¬ 1 ≤ y := dF h2
  exact ⟨_, rfl, iteT ⟨sz, fun q hq => (no (by unfold Vbsgae.between; rw [decide_eq_false h2']; rfl)).one hA1 hR2 (.refl _ _) hq⟩⟩
theorem okzY (T : Txt K mg A) : FnOk P w K mg base CX0 6 A.azY A.dzY ["game", "reader"] (spCall K A 5) := by
 have GzK := okzK P w base T
 have GzO := okzO P w base T
 have GzS := okzS P w base T
 have GzP := okzP P w base T
 refine T.fzY.ok (k := 5) sczY (fun vs H Q E h => ?_) (fun cdv Ar outer s H vs Q E hr h => ?_)
 ·obtain ⟨_, _, _, _, _, _, _, _, rfl, _⟩ := h; rfl
 obtain ⟨G, r, a, ns, i, s, c, t, rfl, hA, S, hR, hC, hr1, hr2, hcall, hask, k⟩ := h
 refine ⟨_, (pQ (ps_set (i := 2) sczY.nd rfl (Or.inl rfl) (pe_meth0 (pv 1) T.clReader T.mzK GzK (hr.mono (by decide : 1 ≤ 5)) T.bzK .nil pass0))
  (pQ (ps_set (i := 3) sczY.nd rfl (Or.inl rfl) (pe_meth0 (pv 1) T.clReader T.mzK GzK (hr.mono (by decide : 1 ≤ 5)) T.bzK .nil pass0))
  (pQ (ps_if (pt_not (pt_val (pe_call GzO (hr.mono (by decide : 1 ≤ 5)) rfl T.gzO T.fzO.kp T.bzO .nil pass0 (pA (pv 0) (pA (pv 2) pZ))))) (pI (pY (pe_lst (pA (pe_glob (v := .int (-1)) rfl T.gxv ⟨_, rfl⟩) pZ)))) pss_nil)
  (pQ (ps_if (pt_not (pt_chain op_le op_le pe_int (pv 3) (pe_glob (v := .int (1000000000)) rfl T.gxG ⟨_, rfl⟩))) (pI (pY (pe_lst (pA (pe_glob (v := .int (-2)) rfl T.gxw ⟨_, rfl⟩) pZ)))) pss_nil)
  (pQ (ps_if (pt_cmpR op_eq (pv 3) pe_int (nomark _)) (pI (pY (pe_call GzS (hr.mono (by decide : 5 ≤ 5)) rfl T.gzS T.fzS.kp T.bzS .nil pass0 (pA (pv 0) (pA (pv 2) (pA (pe_lst (pA (pe_glob (v := .int (4)) rfl T.gxd ⟨_, rfl⟩) pZ)) pZ)))))) pss_nil)
  (pQ (ps_if (pt_cmpR op_lt (pv 3) (pe_call GzP (hr.mono (by decide : 2 ≤ 5)) rfl T.gzP T.fzP.kp T.bzP .nil pass0 (pA (pv 0) (pA (pv 2) pZ))) (nomark _)) (pI (pY (pe_call GzS (hr.mono (by decide : 5 ≤ 5)) rfl T.gzS T.fzS.kp T.bzS .nil pass0 (pA (pv 0) (pA (pv 2) (pA (pe_lst (pA (pe_glob (v := .int (2)) rfl T.gxb ⟨_, rfl⟩) pZ)) pZ)))))) pss_nil)
  (pI (pY (pe_call GzS (hr.mono (by decide : 5 ≤ 5)) rfl T.gzS T.fzS.kp T.bzS .nil pass0 (pA (pv 0) (pA (pv 2) (pA (pe_lst (pA (pe_glob (v := .int (2)) rfl T.gxb ⟨_, rfl⟩) (pA (pe_glob (v := .int (2)) rfl T.gxb ⟨_, rfl⟩) pZ))) pZ)))))))))))), ?_⟩
 obtain ⟨rfl, hn, rfl⟩ := dec0 (n := 2) rfl hcall
 obtain ⟨z, y, hz, hy, ht, hd⟩ := t2 hn
 rw [ht] at k
 rw [hd] at k
 obtain ⟨dx, hR'⟩ := hR
 refine ⟨_, rfl, r, dx, _, rfl, hR', rfl, r, a, ns, i, z, rfl, ⟨dx, hR'⟩, hC, hz, fun H1 hR1 e1 => ?_⟩
 have hC1 := hC.keepR e1 ⟨dx, hR'⟩
 obtain ⟨dx1, hR1'⟩ := hR1
 refine ⟨_, rfl, r, dx1, _, rfl, hR1', rfl, r, a, ns, i + 1, y, rfl, ⟨dx1, hR1'⟩, hC1, hy, fun H2 hR2 e2 => ?_⟩
 have e12 := e1.trans e2
 have F : Fin A Q G r a (i + 2) H2 (Vbsgae.step s (.pay z y)) := fin_of k e12 rfl
 have hA1 := hA.keepR e12 ⟨dx, hR'⟩ hr1 hr2
 obtain ⟨kvs, hT, hp'⟩ := hA1.cur
 have hon := kv_on hT S.tab z
 refine ⟨_, rfl, _, rfl, G.g, G.gr, G.ps, G.cur, s.table, kvs, z, rfl, hA1.ins, hT, _, rfl, ?_⟩
 rw [hon]
 refine ite2 (fun h => ?_) (fun h => ?_)
 ·have h' : Vbsgae.onBoard s z = false := by simpa using h
  have F : Fin A Q G r a (i + 2) H2 (s, [-1]) := by
   have := F
   unfold Vbsgae.step at this
   dsimp only at this
   rw [asked_no h'] at this
   exact this
  exact ⟨sz, fun q hq => F.one hA1 hR2 (.refl _ _) hq⟩
 have h' : Vbsgae.onBoard s z = true := by simpa using h
 have no : Vbsgae.between 0 y 1000000000 = false → Fin A Q G r a (i + 2) H2 (s, [-2]) := fun hb => by
  have := F
  unfold Vbsgae.step at this
  dsimp only at this
  rw [asked_yes h', asked_no hb] at this
  exact this
 refine ⟨_, rfl, _, _, rfl, rfl, _, rfl, ite2 (fun h2 => ?_) (fun h2 => ?_)⟩
 ·refine ⟨_, _, rfl, rfl, _, rfl, ite2 (fun h3 => ?_) (fun h3 => ?_)⟩
  ·have h3' : ¬ y ≤ 1000000000 := by simpa using h3
   exact ⟨sz, fun q hq => (no (by unfold Vbsgae.between; rw [decide_eq_false h3', Bool.and_false])).one hA1 hR2 (.refl _ _) hq⟩
  ·have h3' : y ≤ 1000000000 := by simpa using h3
   have h2' : 0 ≤ y := dT h2
   have F : Fin A Q G r a (i + 2) H2 (Vbsgae.told (Vbsgae.moved s z.toNat (Vbsgae.paid (Vbsgae.priceOf s z.toNat) y.toNat)) z.toNat) := by
    have := F
    unfold Vbsgae.step at this
    dsimp only at this
    rw [asked_yes h', asked_yes (by unfold Vbsgae.between; rw [decide_eq_true h2', decide_eq_true h3']; rfl), asked_nil] at this
    exact this
   obtain ⟨c, m, a1, rfl, e2', e3', e4', e5', e6', e7', e8'⟩ := onT hT S h'
   rw [e2'] at F
   have ep : Vbsgae.priceOf s c = (Vbsgae.cellAt s.board m.place).price := by rw [← e5']; exact markerOf_price S.tab e4'
   have send : ∀ (ms : List Nat) (l : Addr), H2 l = none → okMs ms → Fin A Q G r a (i + 2) H2 (Vbsgae.told (Vbsgae.moved s c ms) c) → spzS K A [.ref G.g, nV c, .ref l] (upd H2 l (.lst (nVs ms))) Q E0 := by
    intro ms l hl hok F
    have e3 : Kp [] H2 (upd H2 l (.lst (nVs ms))) := .new hl
    refine ⟨G, s, c, l, ms, m, rfl, hA1.keep0 e3, S, e3', SqL.of uS, fun q => ?_, hok, F.sent hR2 hr1 e3⟩
    obtain ⟨o, ho⟩ := hA1.ats l (List.mem_append_left _ q)
    rw [hl] at ho
    cases ho
   unfold Vbsgae.paid at F
   refine ⟨_, rfl, rfl, _, rfl, ite2 (fun h4 => ?_) (fun h4 => ?_)⟩
   ·have h4' : y = 0 := dI.mp h4
    rw [if_pos (by omega)] at F
    exact ⟨_, rfl, _, rfl, sz, fun l hl => send [4] l hl ok_4 F⟩
   ·have h4' : ¬ y = 0 := fun e => h4 (dI.mpr e)
    rw [if_neg (by omega)] at F
    refine ⟨_, rfl, _, rfl, _, rfl, G.g, G.gr, G.ps, G.w, G.rs, s.board, G.cur, s.table, kvs, _, a1, m.place, rfl, hA1.ins, hT, hA1.grid, e6', e7', e8', _, _, rfl, rfl, _, rfl, ite2 (fun h5 => ?_) (fun h5 => ?_)⟩
    ·have h5' : y < ((Vbsgae.cellAt s.board m.place).price : Int) := dT h5
     rw [if_pos (by rw [ep]; omega)] at F
     exact ⟨_, rfl, _, rfl, sz, fun l hl => send [2] l hl ok_2 F⟩
    ·have h5' : ¬ y < ((Vbsgae.cellAt s.board m.place).price : Int) := dF h5
     rw [if_neg (by rw [ep]; omega)] at F
     exact ⟨_, rfl, _, rfl, sz, fun l hl => send [2, 2] l hl ok_22 F⟩
 ·have h2' : ¬ 0 ≤ y := dF h2
  exact ⟨_, rfl, iteT ⟨sz, fun q hq => (no (by unfold Vbsgae.between; rw [decide_eq_false h2']; rfl)).one hA1 hR2 (.refl _ _) hq⟩⟩
theorem okz0 (T : Txt K mg A) : FnOk P w K mg base CX0 6 A.az0 A.dz0 ["game", "reader"] (spCall K A 7) := by
 have GzK := okzK P w base T
 have GzM := okzM P w base T
 have GzO := okzO P w base T
 have GzQ := okzQ P w base T
 have GzS := okzS P w base T
 refine T.fz0.ok (k := 5) scz0 (fun vs H Q E h => ?_) (fun cdv Ar outer s H vs Q E hr h => ?_)
 ·obtain ⟨_, _, _, _, _, _, _, _, rfl, _⟩ := h; rfl
 obtain ⟨G, r, a, ns, i, s, c, t, rfl, hA, S, hR, hC, hr1, hr2, hcall, hask, k⟩ := h
 refine ⟨_, (pQ (ps_set (i := 2) scz0.nd rfl (Or.inl rfl) (pe_meth0 (pv 1) T.clReader T.mzK GzK (hr.mono (by decide : 1 ≤ 5)) T.bzK .nil pass0))
  (pQ (ps_set (i := 3) scz0.nd rfl (Or.inl rfl) (pe_meth0 (pv 1) T.clReader T.mzM GzM (hr.mono (by decide : 2 ≤ 5)) T.bzM .nil pass0))
  (pQ (ps_if (pt_not (pt_val (pe_call GzO (hr.mono (by decide : 1 ≤ 5)) rfl T.gzO T.fzO.kp T.bzO .nil pass0 (pA (pv 0) (pA (pv 2) pZ))))) (pI (pY (pe_lst (pA (pe_glob (v := .int (-1)) rfl T.gxv ⟨_, rfl⟩) pZ)))) pss_nil)
  (pQ (ps_if (pt_not (pt_val (pe_call GzQ (hr.mono (by decide : 1 ≤ 5)) rfl T.gzQ T.fzQ.kp T.bzQ .nil pass0 (pA (pv 3) pZ)))) (pI (pY (pe_lst (pA (pe_glob (v := .int (-2)) rfl T.gxw ⟨_, rfl⟩) pZ)))) pss_nil)
  (pI (pY (pe_call GzS (hr.mono (by decide : 5 ≤ 5)) rfl T.gzS T.fzS.kp T.bzS .nil pass0 (pA (pv 0) (pA (pv 2) (pA (pv 3) pZ)))))))))), ?_⟩
 obtain ⟨z0, r2, hd0, h0, hz0, rfl, hn, rfl⟩ := dec1 (n := 1) rfl hcall
 obtain ⟨z, hz, ht, hd⟩ := t1 hn
 rw [hd] at hd0
 rw [ht] at k hask
 have h70 : (r2.take z0.toNat).length ≤ 70 := by
  have h : (VbsgaeNeutral.whole60 z && ((r2.take z0.toNat).all (fun z => VbsgaeNeutral.whole60 z) && decide ((r2.take z0.toNat).length ≤ 70))) = true := hask
  rw [Bool.and_eq_true] at h
  exact w60_len h.2
 rw [tRow hd0] at k
 generalize hlst : r2.take z0.toNat = lst at *
 obtain ⟨dx, hR'⟩ := hR
 refine ⟨_, rfl, r, dx, _, rfl, hR', rfl, r, a, ns, i, z, rfl, ⟨dx, hR'⟩, hC, hz, fun H1 hR1 e1 => ?_⟩
 have hC1 := hC.keepR e1 ⟨dx, hR'⟩
 obtain ⟨dx1, hR1'⟩ := hR1
 refine ⟨_, rfl, r, dx1, _, rfl, hR1', rfl, r, a, ns, i + 1, z0, r2, rfl, ⟨dx1, hR1'⟩, hC1, hd0, h0, hz0, fun H2 l hl nl hR2 e2 => ?_⟩
 rw [hlst] at hl
 have e12 := e1.trans e2
 have F : Fin A Q G r a (i + 1 + 1 + z0.toNat) H2 (Vbsgae.step s (.moves z lst)) := fin_of k e12 rfl
 have hA1 := hA.keepR e12 ⟨dx, hR'⟩ hr1 hr2
 obtain ⟨kvs, hT, hp'⟩ := hA1.cur
 have hon := kv_on hT S.tab z
 refine ⟨_, rfl, _, rfl, G.g, G.gr, G.ps, G.cur, s.table, kvs, z, rfl, hA1.ins, hT, _, rfl, ?_⟩
 rw [hon]
 refine ite2 (fun h => ?_) (fun h => ?_)
 ·have h' : Vbsgae.onBoard s z = false := by simpa using h
  have F : Fin A Q G r a (i + 1 + 1 + z0.toNat) H2 (s, [-1]) := by
   have := F
   unfold Vbsgae.step at this
   dsimp only at this
   rw [asked_no h'] at this
   exact this
  exact ⟨sz, fun q hq => F.one hA1 hR2 (.refl _ _) hq⟩
 have h' : Vbsgae.onBoard s z = true := by simpa using h
 refine ⟨_, rfl, l, lst, rfl, SqL.of hl, by omega, fun H3 e3 => ⟨_, rfl, ite2 (fun h2 => ?_) (fun h2 => ?_)⟩⟩
 ·have h2' : Vbsgae.areMoves lst = false := by simpa using h2
  have F : Fin A Q G r a (i + 1 + 1 + z0.toNat) H2 (s, [-2]) := by
   have := F
   unfold Vbsgae.step at this
   dsimp only at this
   rw [asked_yes h', asked_no h2'] at this
   exact this
  exact ⟨sz, fun q hq => F.one hA1 hR2 e3 hq⟩
 have h2' : Vbsgae.areMoves lst = true := by simpa using h2
 have F : Fin A Q G r a (i + 1 + 1 + z0.toNat) H2 (Vbsgae.told (Vbsgae.moved s z.toNat (Vbsgae.nats lst)) z.toNat) := by
  have := F
  unfold Vbsgae.step at this
  dsimp only at this
  rw [asked_yes h', asked_yes h2', asked_nil] at this
  exact this
 obtain ⟨c, m, a1, rfl, e2', e3', e4', e5', e6', e7', e8'⟩ := onT hT S h'
 rw [e2'] at F
 obtain ⟨am1, am2⟩ := areMoves_ok h2'
 have hl3 : SqL K H3 l (nVs (Vbsgae.nats lst)) := by rw [← am1]; exact SqL.of (e3.at_ hl)
 refine ⟨_, rfl, _, rfl, _, rfl, G, s, c, l, Vbsgae.nats lst, m, rfl, hA1.keep0 e3, S, e3', hl3, fun q => ?_, am2, F.sent hR2 hr1 e3⟩
 obtain ⟨o, ho⟩ := (hA.keepR e1 ⟨dx, hR'⟩ hr1 hr2).ats l (List.mem_append_left _ q)
 rw [nl] at ho
 cases ho
theorem okzW (T : Txt K mg A) : FnOk P w K mg base CX0 5 A.azW A.dzW ["game", "reader"] (spCall K A 3) := by
 have GzK := okzK P w base T
 have GzL := okzL P w base T
 have Gzb := okzb P w base T
 have GzO := okzO P w base T
 have Gze := okze P w base T
 have Gzr := okzr P w base T
 have Gzl := okzl P w base T
 have Gzd := okzd P w base T
 refine T.fzW.ok (k := 4) sczW (fun vs H Q E h => ?_) (fun cdv Ar outer s H vs Q E hr h => ?_)
 ·obtain ⟨_, _, _, _, _, _, _, _, rfl, _⟩ := h; rfl
 obtain ⟨G, r, a, ns, i, s, c, t, rfl, hA, S, hR, hC, hr1, hr2, hcall, hask, k⟩ := h
 refine ⟨_, (pQ (ps_set (i := 2) sczW.nd rfl (Or.inl rfl) (pe_meth0 (pv 1) T.clReader T.mzK GzK (hr.mono (by decide : 1 ≤ 4)) T.bzK .nil pass0))
  (pQ (ps_set (i := 3) sczW.nd rfl (Or.inl rfl) (pe_meth0 (pv 1) T.clReader T.mzL GzL (hr.mono (by decide : 2 ≤ 4)) T.bzL .nil pass0))
  (pQ (ps_if (PW.pt (pw_or (pt_not (pt_chain op_le op_le pe_int (pv 2) (pe_glob (v := .int (8)) rfl T.gxD ⟨_, rfl⟩))) (pw_or1 (pt_not (pt_val (pe_meth (pe_fld (pv 0) rfl) T.clGrid T.mzb Gzb (hr.mono (by decide : 1 ≤ 4)) T.bzb .nil pass0 (pA (pv 3) pZ))))))) (pI (pY (pe_lst (pA (pe_glob (v := .int (-1)) rfl T.gxv ⟨_, rfl⟩) pZ)))) pss_nil)
  (pQ (ps_if (pt_cmpR op_in_seq (pv 2) (pe_fld (pe_fld (pv 0) rfl) rfl) rfl) (pI (pY (pe_lst (pA (pe_glob (v := .int (-3)) rfl T.gxx ⟨_, rfl⟩) pZ)))) pss_nil)
  (pQ (ps_if (pt_val (pe_call GzO (hr.mono (by decide : 1 ≤ 4)) rfl T.gzO T.fzO.kp T.bzO .nil pass0 (pA (pv 0) (pA (pv 2) pZ)))) (pI (pY (pe_lst (pA (pe_glob (v := .int (-4)) rfl T.gxy ⟨_, rfl⟩) pZ)))) pss_nil)
  (pQ (ps_if (pt_cmpR op_notIn_seq (pe_glob (v := .int (98)) rfl T.gxf ⟨_, rfl⟩) (pe_meth (pe_fld (pv 0) rfl) T.clGrid T.mze Gze (hr.mono (by decide : 1 ≤ 4)) T.bze .nil pass0 (pA (pv 3) pZ)) rfl) (pI (pY (pe_lst (pA (pe_glob (v := .int (-5)) rfl T.gxz ⟨_, rfl⟩) pZ)))) pss_nil)
  (pQ (ps_expr (pe_meth0 (pv 0) T.clGame T.mzr Gzr (hr.mono (by decide : 4 ≤ 4)) T.bzr .nil pass0))
  (pQ (ps_expr (pe_meth (pe_fld (pv 0) rfl) T.clMarkers T.mzl Gzl (hr.mono (by decide : 1 ≤ 4)) T.bzl .nil pass0 (pA (pv 2) (pA (pv 3) pZ))))
  (pI (pY (pe_lst (pA (pe_meth (pe_fld (pv 0) rfl) T.clGrid T.mzd Gzd (hr.mono (by decide : 1 ≤ 4)) T.bzd .nil pass0 (pA (pv 3) pZ)) pZ)))))))))))), ?_⟩
 obtain ⟨rfl, hn, rfl⟩ := dec0 (n := 3) rfl hcall
 obtain ⟨z, y, x, hz, hy, hx, ht, hd⟩ := t3 hn
 rw [ht] at k
 rw [hd] at k
 obtain ⟨dx, hR'⟩ := hR
 refine ⟨_, rfl, r, dx, _, rfl, hR', rfl, r, a, ns, i, z, rfl, ⟨dx, hR'⟩, hC, hz, fun H1 hR1 e1 => ?_⟩
 have hC1 := hC.keepR e1 ⟨dx, hR'⟩
 obtain ⟨dx1, hR1'⟩ := hR1
 refine ⟨_, rfl, r, dx1, _, rfl, hR1', rfl, r, a, ns, i + 1, y, x, rfl, ⟨dx1, hR1'⟩, hC1, hy, hx, fun H2 p hp hR2 e2 => ?_⟩
 have e12 := e1.trans e2
 have F : Fin A Q G r a (i + 3) H2 (Vbsgae.step s (.begin z y x)) := fin_of k e12 rfl
 have hA1 := hA.keepR e12 ⟨dx, hR'⟩ hr1 hr2
 obtain ⟨dg, hg⟩ := hA1.ins
 obtain ⟨dgr, hgr⟩ := hA1.grid.ins
 obtain ⟨kvs, hT, hp'⟩ := hA1.cur
 obtain ⟨dm, hm⟩ := hT.ins
 unfold Vbsgae.step at F
 dsimp only at F
 have no1 : (Vbsgae.isCompany z && Vbsgae.isPlace s y x) = false → Fin A Q G r a (i + 3) H2 (s, [-1]) := fun h => by
  rw [asked_no h] at F
  exact F
 have isC : Vbsgae.isCompany z = (decide (1 ≤ z) && decide (z ≤ 8)) := rfl
 dsimp only [gName]
 refine cut1 fun F0 hF0 => ?_
 have fin : (Vbsgae.isCompany z && Vbsgae.isPlace s y x) = true → F0 (Ds Q) [some (.ref G.g), some (.ref r), some (.int z), some (.ref p)] H2 := by
  intro hok
  subst hF0
  rw [asked_yes hok] at F
  rw [Bool.and_eq_true] at hok
  obtain ⟨hok1, hok2⟩ := hok
  rw [isC, Bool.and_eq_true] at hok1
  have hz1 : 1 ≤ z := of_decide_eq_true hok1.1
  have hz8 : z ≤ 8 := of_decide_eq_true hok1.2
  obtain ⟨c, rfl⟩ : ∃ c : Nat, z = (c : Int) := ⟨z.toNat, by omega⟩
  rw [isPlace_eq] at hok2
  obtain ⟨q, rfl, rfl, hq⟩ := hasZ_iff.mp hok2
  have hpq : PlA H2 p q := hp
  simp only [Int.toNat_natCast] at F
  refine ⟨_, rfl, _, rfl, G.g, A.cGame, dg, _, _, rfl, hg, T.clGame, T.nGm, rfl, G.cur.m, A.cMarkers, dm, _, _, rfl, hm, T.clMarkers, T.nMc, rfl, G.cur.cl, _, rfl, .inl (SqL.of hT.clo), rfl, flat_n _, _, rfl, ?_⟩
  show if inV (nV c) (nVs s.table.closed) = true then _ else _
  rw [inV_c]
  refine ite2 (fun h => ?_) (fun h => ?_)
  ·rw [asked_no (by rw [h]; rfl)] at F
   exact ⟨sz, fun m hm => F.one hA1 hR2 (.refl _ _) hm⟩
  have hcl : s.table.closed.contains c = false := by simpa using h
  rw [asked_yes (by rw [hcl]; rfl)] at F
  have hon := kv_on hT S.tab (c : Int)
  have hbt : Vbsgae.onBoard s (c : Int) = (Vbsgae.markerOf s.table c).isSome := by
   unfold Vbsgae.onBoard
   rw [isC, hok1.1, hok1.2]
   rfl
  refine ⟨_, rfl, _, rfl, G.g, G.gr, G.ps, G.cur, s.table, kvs, _, rfl, hA1.ins, hT, _, rfl, ?_⟩
  rw [hon, hbt]
  refine ite2 (fun h2 => ?_) (fun h2 => ?_)
  ·rw [asked_no (by
    cases e : Vbsgae.markerOf s.table c with
    | none => rw [e] at h2; cases h2
    | some m => rfl)] at F
   exact ⟨sz, fun m hm => F.one hA1 hR2 (.refl _ _) hm⟩
  have hnone : Vbsgae.markerOf s.table c = none := by
   cases e : Vbsgae.markerOf s.table c with
   | none => rfl
   | some m => rw [e] at h2; exact absurd rfl h2
  rw [asked_yes (by rw [hnone]; rfl)] at F
  refine ⟨_, rfl, G.g, A.cGame, dg, _, _, rfl, hg, T.clGame, T.nGg, rfl, G.gr, dgr, _, rfl, hgr, rfl, _, rfl, G.gr, G.w, G.rs, s.board, p, q, rfl, hA1.grid, hpq, hq, fun l hl => ⟨l, _, rfl, .inr (SqT.of hl), rfl, flat_n _, _, rfl, ?_⟩⟩
  have ei : inV (V.int 98) (nVs (Vbsgae.cellAt s.board q).letters) = (Vbsgae.cellAt s.board q).letters.contains 98 := inV_c 98 _
  show if (!inV (V.int 98) (nVs (Vbsgae.cellAt s.board q).letters)) = true then _ else _
  rw [ei]
  have eq' : ((q.1, q.2) : Pc) = q := rfl
  rw [eq'] at F
  refine ite2 (fun h3 => ?_) (fun h3 => ?_)
  ·have h3' : (Vbsgae.cellAt s.board q).letters.contains 98 = false := by simpa using h3
   rw [asked_no h3'] at F
   exact ⟨sz, fun m hm => F.one hA1 hR2 (.refl _ _) hm⟩
  have h3' : (Vbsgae.cellAt s.board q).letters.contains 98 = true := by simpa using h3
  rw [asked_yes h3', asked_nil] at F
  refine ⟨_, rfl, G.g, dg, _, rfl, hg, rfl, G, s, rfl, hA1, S.plen, fun H3 past hA3 e3 hnew => ?_⟩
  obtain ⟨dg3, hg3⟩ := hA3.ins
  have hcur3 := hA3.cur
  obtain ⟨kvs3, hT3, hp3⟩ := hA3.cur
  obtain ⟨dm3, hm3⟩ := hT3.ins
  have hp3' : PlA H3 p q := hpq.keep e3
  refine ⟨_, rfl, G.g, A.cGame, dg3, _, _, rfl, hg3, T.clGame, T.nGm, rfl, G.cur.m, dm3, _, rfl, hm3, rfl, _, rfl, _, rfl, G.cur, s.table, c, p, q, rfl, hcur3, hp3', markerOf_none hnone, by have := S.tab.len; omega, fun H4 tab4 e4 => ?_⟩
  have e4c : Kp G.cur.fp H3 H4 := e4.mono fun x hx => by
   have : x = G.cur.pl := by simpa using hx
   rw [this]
   exact .tail _ (.head _)
  have hA4 : GameA A H4 { G with past := past } _ := GameA.recur hA3 e4c (tab4 s.table.next (s.table.next + 1))
  obtain ⟨dg4, hg4⟩ := hA4.ins
  obtain ⟨dgr4, hgr4⟩ := hA4.grid.ins
  refine ⟨_, rfl, G.g, A.cGame, dg4, _, _, rfl, hg4, T.clGame, T.nGg, rfl, G.gr, dgr4, _, rfl, hgr4, rfl, _, rfl, G.gr, G.w, G.rs, s.board, p, q, rfl, hA4.grid, hp3'.keep e4, hq, sz, fun m hm => ?_⟩
  have e24 : Kp (G.mut A) H2 H4 := (e3.mono fun x hx => by
   have : x = G.ps := by simpa using hx
   rw [this]
   exact .tail _ (.head _)).trans (e4c.mono fun x hx => mut_fp (.head _) x hx)
  refine F _ { G with past := past } m rfl (hA4.keep0 (.new hm)) ((hR2.keep e24 hr1).keep0 (.new hm)) uS ((e24.mono fun x hx => .tail _ hx).trans (.new hm)) fun x hx => ?_
  rcases List.mem_append.mp hx with hx | hx
  ·rcases hnew x hx with h | h
   ·exact .inl (List.mem_append_left _ h)
   ·exact .inr h
  ·exact .inl (List.mem_append_right _ hx)
 refine ⟨_, rfl, _, _, rfl, rfl, _, rfl, ite2 (fun h => ?_) (fun h => ?_)⟩
 ·refine ⟨_, _, rfl, rfl, _, rfl, ite2 (fun h2 => ?_) (fun h2 => ?_)⟩
  ·have h2' : decide (z ≤ 8) = false := Bool.not_eq_true' _ |>.mp h2
   exact iteT ⟨sz, fun m hm => (no1 (by rw [isC, h2', Bool.and_false]; rfl)).one hA1 hR2 (.refl _ _) hm⟩
  ·have h2' : decide (z ≤ 8) = true := by
    cases e : decide (z ≤ 8) with
    | true => rfl
    | false => exact absurd (show (!decide (z ≤ 8)) = true by rw [e]; rfl) h2
   refine ⟨_, rfl, G.g, A.cGame, dg, _, _, rfl, hg, T.clGame, T.nGg, rfl, G.gr, dgr, _, rfl, hgr, rfl, _, rfl, G.gr, G.w, G.rs, s.board, p, y, x, rfl, hA1.grid, hp, _, rfl, ite2 (fun h3 => ?_) (fun h3 => ?_)⟩
   ·have h3' : Vbsgae.isPlace s y x = false := by simpa [isPlace_eq] using h3
    exact ⟨sz, fun m hm => (no1 (by rw [h3', Bool.and_false])).one hA1 hR2 (.refl _ _) hm⟩
   ·have h3' : Vbsgae.isPlace s y x = true := by simpa [isPlace_eq] using h3
    exact fin (by rw [isC, h, h2', h3']; rfl)
 ·have h' : decide (1 ≤ z) = false := by simpa using h
  exact ⟨_, rfl, iteT (iteT ⟨sz, fun m hm => (no1 (by rw [isC, h']; rfl)).one hA1 hR2 (.refl _ _) hm⟩)⟩
end
end Pb
namespace L2
open PySem PySem.Spec PyProof.Rows
section
variable {X : Cx} {pins : List (Addr × Obj)} {σ : L2.St} {H : Hp} {s : Shared}
theorem Inv.grow {P c' : Addr} {ps more : Array Value} {h' : Heap} {t' : Nat} {φ : Heap → Prop} (I : Inv X pins σ H s) (hP : H P = some (.tbl ps)) (hx : Heap.ExtBut P s.heap h') (hc : s.heap.objs.size ≤ c') (hφ : φ h') (hco : ∃ o, h'.get? c' = some o)
  (hst : ∀ h1 h2 : Heap, φ h1 → (∀ o, h1.get? c' = some o → h2.get? c' = some o) → φ h2) (htb : h'.get? P = some { cls := .none, data := .fields (ps ++ more) }) :
  Inv X pins σ (upd (upd H P (.tbl (ps ++ more))) c' (.ext φ)) { s with heap := h', toks := t' } := by
 have hn : H c' = none := I.hok.fresh hc
 have nPc : P ≠ c' := ne_of_none hP hn
 have nb : ∀ b u, H b = some u → b ≠ P → upd (upd H P (.tbl (ps ++ more))) c' (.ext φ) b = some u := fun b u e n => by rw [uN (ne_of_none e hn), uN n]; exact e
 refine I.step (g' := s.gens) (d' := s.drawn) (ch := []) (fun b hb => by cases hb) (fun b u _ _ _ e z => hx b u (fun q => by rw [q, hP] at z; cases z) e) (fun b u _ _ _ e z => ⟨u.slots, hx b u (fun q => by rw [q, hP] at z; cases z) e⟩)
  (fun b u _ e z => ?_) (fun b u _ e => ?_) (fun b xs e => nb b _ e fun q => by rw [q, hP] at e; cases e) (fun b u v e => nb b _ e fun q => by rw [q, hP] at e; cases e) (fun b ps' e => ?_) (fun m hm => ?_) (fun b u e => ?_) I.bare
 ·have n1 : b ≠ c' := Nat.ne_of_lt (Nat.lt_of_lt_of_le (Heap.lt_size e) hc)
  have n2 : b ≠ P := fun q => by rw [q, hP] at z; cases z
  rw [uN n1, uN n2]
  exact z
 ·by_cases hb : b = P
  ·subst hb
   exact ⟨_, htb⟩
  ·exact ⟨u, hx b u hb e⟩
 ·by_cases hb : b = P
  ·subst hb
   rw [hP] at e
   cases e
   exact ⟨more, by rw [uN nPc, uS]⟩
  ·exact ⟨#[], by rw [nb b _ e hb]; simp⟩
 ·exact hm.extBut hx fun q => by
   have := I.free
   rw [q, hP] at this
   cases this
 ·by_cases hb : b = c'
  ·subst hb
   rw [uS] at e
   cases e
   exact ⟨hφ, hco, hst⟩
  ·rw [uN hb] at e
   by_cases hb2 : b = P
   ·subst hb2
    rw [uS] at e
    cases e
    exact htb
   ·rw [uN hb2] at e
    refine (I.hok b u e).stay (fun c v q z => hx c v (fun y => ?_) z) (fun c q => nb c _ q fun y => by rw [y, hP] at q; cases q) fun c xs q => nb c _ q fun y => by rw [y, hP] at q; cases q
    rcases q with q | q
    ·exact hb2 (q.symm.trans y)
    ·rw [y, hP] at q
     cases q
end
end L2
namespace Pb
open PySem PySem.Spec PyProof.Rows L2 Vb
open Vbsgae (Cell Board Marker Table State)
def BMain (mg : Str → Option Value) (base : Heap) : Prop := ∃ bm ob, mg "__builtins__" = some (.ref bm) ∧ bm ≠ builtinsNs ∧ base.get? bm = some ob ∧ ob.cls = .type "module" ∧ ob.dict = some builtinsNs ∧ ob.data = .plain
def mkOf (t : Table) (z : Int) : Marker := (t.markers.find? fun m => m.company == z.toNat).getD ⟨0, (0, 0), 0⟩
theorem mkOf_at {b : Board} {t : Table} (T : TInv b t) {m : Marker} (h : m ∈ t.markers) : mkOf t (m.company : Int) = m := by
 unfold mkOf
 rw [Int.toNat_natCast, find_nd T.nd h]
 rfl
theorem order_of {b : Board} {t : Table} (T : TInv b t) {zs' : List Int} (so : SortOut (fun z => rank b (mkOf t z).place) (t.markers.map fun m => (m.company : Int)) zs') : iVs zs' = nVs (Vbsgae.order ⟨b, t, []⟩) := by
 have hm : (t.markers.map fun m => (m.company : Int)).map (mkOf t) = t.markers := by
  rw [List.map_map]
  conv => rhs; rw [← List.map_id t.markers]
  exact List.map_congr_left fun m h => mkOf_at T h
 have h1 : (zs'.map (mkOf t)).Perm t.markers := by
  have := so.perm.map (mkOf t)
  rw [hm] at this
  exact this
 have ho := order_eq (s := ⟨b, t, []⟩) T (m := zs'.map (mkOf t)) h1 (by rw [List.pairwise_map]; exact so.sorted) fun c => by
  rw [List.filter_map]
  have := congrArg (List.map (mkOf t)) (so.stable c)
  rw [show (zs'.filter ((fun x => decide (rank b x.place = c)) ∘ mkOf t)) = zs'.filter (fun z => decide (rank b (mkOf t z).place = c)) from rfl, this]
  have e2 : (((t.markers.map fun m => (m.company : Int)).filter fun z => decide (rank b (mkOf t z).place = c)).map (mkOf t)) = ((t.markers.map fun m => (m.company : Int)).map (mkOf t)).filter fun x => decide (rank b x.place = c) := (List.filter_map (f := mkOf t) (p := fun x : Marker => decide (rank b x.place = c))).symm
  rw [e2, hm]
 rw [ho, List.map_map]
 show zs'.map V.int = (zs'.map _).map nV
 rw [List.map_map]
 refine List.map_congr_left fun z hz => ?_
 obtain ⟨m, hm1, hm2⟩ := List.mem_map.mp (so.perm.mem_iff.mp hz)
 show V.int z = V.int (((mkOf t z).company : Nat) : Int)
 rw [← hm2, mkOf_at T hm1]
section
variable (P : Program) (w : World) {K : W.Frag} {mg : Str → Option Value} (base : Heap) {A : Adr}
structure Made (X : Cx) (pins : List (Addr × Obj)) (σ : L2.St) (A : Adr) (H H1 : Hp) (s1 : Shared) (f c' : Addr) (fo : Obj) : Prop where
 inv : Inv X pins σ H1 s1
 at_ : s1.heap.get? f = some fo
 nf : H1 f = none
 nl : f ≠ X.env.locals
 ns : f ∉ X.fs
 ext : H1 c' = some (.ext (isRank c'))
 tbl : TblOk A H1
 kp : Kp [A.pT] H H1
 dat : ∃ doc pm ct, fo = { cls := .type "function", data := .func (W.fnX "rank" rankQual (defArgs rkSt) (defBody rkSt) (dZ rkSt) (cloFrom X.env.cells (dZ rkSt).names []) .none .none doc pm none (.ref c') ct) }
theorem builtins_at {X : Cx} {pins : List (Addr × Obj)} {σ : L2.St} {H : Hp} {s : Shared} {P : Addr} {u : HO} (I : Inv X pins σ H s) (B : BMain X.mg X.base) (hP : H P = some u) : s.heap.BuiltinsAt X.mg P ∧ mainGlobals ≠ P := by
 obtain ⟨bm, ob, b1, b2, b3, b4, b5, b6⟩ := B
 obtain ⟨o, es, ep, e, hd, r⟩ := I.mod.glob
 have hg := I.bs _ _ e
 have hb := I.bs _ _ b3
 refine ⟨⟨bm, ob, b1, b2, fun q => ?_, fun q => ?_, hb.1, b4, b5, b6⟩, fun q => ?_⟩
 ·rw [q, e] at b3
  cases b3
  rw [hd] at b6
  cases b6
 ·have := hb.2
  rw [q, hP] at this
  cases this
 ·have := hg.2
  rw [q, hP] at this
  cases this
theorem made_rank {X : Cx} {pins : List (Addr × Obj)} {σ : L2.St} {H : Hp} {s : Shared} {E : Value → Shared → Prop} (I : Inv X pins σ H s) (B : BMain X.mg X.base) (ht : TblOk A H) (hcd : X.env.code = .ref A.cOrd) (hhd : W.codeHdIn X.K A.cOrd A.pT = true)
  (hcl : closureFor (dZ rkSt) X.env = pure (cloFrom X.env.cells (dZ rkSt).names [])) (hq : qualnameIn X.env "rank" "rank" = rankQual) :
  wpAny (model X.prog X.w) X.A (makeFunction "rank" (qualnameIn X.env "rank" "rank") (defArgs rkSt) (.stmts (defBody rkSt)) (dZ rkSt) X.env [] [] [] rkPos rkPos.line)
   (fun v s1 => ∃ f c' fo H1, v = .ref f ∧ Made X pins σ A H H1 s1 f c' fo) E s := by
 rw [hq]
 have hg : s.heap.Ns mainGlobals X.mg := I.mod.glob.keeps I.bk
 have C : W.CodeHd s.heap A.cOrd A.pT := W.codeHd_of_K I.kIn hhd
 rcases ht with ht | ⟨c, ht, hc⟩
 ·obtain ⟨hb, hgP⟩ := builtins_at I B ht
  have hP : s.heap.get? A.pT = some (W.tabObj #[]) := I.hok _ _ ht
  refine W.makeFunction_K hcl I.ok.glob hg hcd C hP trivial rfl hgP hb fun c' ctv doc h' tk hx hge hlt hrec htb => ?_
  have hco : ∃ o, h'.get? c' = some o := by
   obtain ⟨c2, o, vs, t, e, g, _⟩ := hrec
   cases e
   exact ⟨o, g⟩
  have J := I.grow (φ := isRank c') (t' := tk) (more := #[rawInt rkPos.line, rawInt rkPos.col, .ref c']) ht hx hge hrec hco (fun h1 h2 q k => by
   obtain ⟨c2, o, vs, t, e, g, r⟩ := q
   cases e
   exact ⟨c', o, vs, t, rfl, k _ g, r⟩) htb
  have nPc : A.pT ≠ c' := ne_of_none ht (I.hok.fresh hge)
  have hn : H c' = none := I.hok.fresh hge
  have J2 := J.kept (t' := tk) (h' := h'.push (W.fnMade "rank" rankQual (defArgs rkSt) (defBody rkSt) (dZ rkSt) (cloFrom X.env.cells (dZ rkSt).names []) doc ((X.mg "__name__").getD .none) c' ctv)) fun b u e => Heap.get?_push_of_some _ e
  refine ⟨h'.objs.size, c', _, _, rfl, J2, Heap.get?_push_size _ rfl, J.hok.fresh (Nat.le_refl _), Nat.ne_of_gt J.lt, J.nofs (Nat.le_refl _), uS, .inr ⟨c', ?_, uS⟩, ?_, doc, _, ctv, rfl⟩
  ·rw [uN nPc, uS]
   simp
  ·exact (Kp.put (.head _) ht fun _ z => nomatch z).trans (.new (by rw [uN nPc.symm]; exact hn))
 ·obtain ⟨hb, hgP⟩ := builtins_at I B ht
  have hP : s.heap.get? A.pT = some (W.tabObj #[rawInt rkPos.line, rawInt rkPos.col, .ref c]) := I.hok _ _ ht
  refine W.makeFunction_hit (cv := .ref c) hcl I.ok.glob hg hcd C hP trivial ?_ hb fun ctv doc h' tk hk hsz => ?_
  ·show codeAmong rkPos [rawInt rkPos.line, rawInt rkPos.col, .ref c] = _
   rfl
  have J := I.kept (t' := tk) hk
  have J2 := J.kept (t' := tk) (h' := h'.push { cls := .type "function", data := .func (W.fnX "rank" rankQual (defArgs rkSt) (defBody rkSt) (dZ rkSt) (cloFrom X.env.cells (dZ rkSt).names []) .none .none doc ((X.mg "__name__").getD .none) none (.ref c) ctv) }) fun b u e => Heap.get?_push_of_some _ e
  refine ⟨h'.objs.size, c, _, _, rfl, J2, Heap.get?_push_size _ rfl, J.hok.fresh (Nat.le_refl _), Nat.ne_of_gt J.lt, J.nofs (Nat.le_refl _), hc, .inr ⟨c, ht, hc⟩, .refl _ _, doc, _, ctv, rfl⟩
theorem rk_free : ∀ y ∈ (dZ rkSt).names, y.2 = .free → (dZ szo).names.lookup y.1 = some .cell := by decide +kernel
theorem rk_nocell : ∀ y ∈ (dZ rkSt).names, y.2 ≠ .cell := by decide +kernel
theorem lookup_mem {α : Type} : ∀ {l : List (Str × α)} {n : Str} {c : α}, l.lookup n = some c → (n, c) ∈ l
 | [], _, _, h => by cases h
 | (k, v) :: r, n, c, h => by
  rw [List.lookup_cons] at h
  cases hb : n == k with
  | true =>
   rw [hb] at h
   cases h
   rw [eq_of_beq hb]
   exact .head _
  | false =>
   rw [hb] at h
   exact .tail _ (lookup_mem h)
theorem kv_keys {H : Hp} : ∀ {kvs : List (Key × V)} {ms : List Marker}, Paired (KvA H) kvs ms → kvs.map (·.1) = (ms.map fun m => (m.company : Int)).map Sum.inl
 | _, _, .nil => rfl
 | _, _, .cons a r => by
  rw [List.map_cons, List.map_cons, List.map_cons, kv_keys r, a.1]
theorem room2 {k : Nat} {B : Around} (r : Room (k + 1) B) : Room k B.in1.in1 := ⟨r.hd, by have := r.dp; show B.depth + 3 * k + 5 < _; omega, by have := r.un; show B.units + 1 + 1 + 16 * k + 200 < _; omega⟩
theorem okzo (T : Txt K mg A) (B : BMain mg base) : FnOk P w K mg base CX0 5 A.azo A.dzo ["self", "grid"] (spzo A) := by
 have Gzd := okzd P w base T
 obtain ⟨oc, od, kV, doc, pm, an, cdv, ct, osl, hfd, lk, hcd⟩ := T.fzo.ex
 have hcv : cdv = .ref A.cOrd := by
  have := T.cdOrd
  rw [hfd] at this
  exact this
 subst hcv
 rw [hfd] at lk ⊢
 refine fn_of (k := 4) lk hcd sczo (fun vs H Q E h => ?_) (fun Ar outer s H vs Q E hr h => ?_)
 ·obtain ⟨_, _, _, _, _, _, rfl, _⟩ := h
  rfl
 obtain ⟨x, t, g, w1, rs, b, rfl, hT, TI, hG, htb, k⟩ := h
 refine ⟨fun D σ H2 => σ = [some (.ref x.m), some (.ref g), none] ∧ H2 = H ∧ D.rt = Q, ?_, rfl, rfl, rfl⟩
 intro pins s1 σ H2 D I hh
 obtain ⟨rfl, rfl, hD⟩ := hh
 have hcl : closureFor (dZ rkSt) (cxOf CX0 P w K mg base ["self", "grid", "rank"] "Markers.order" (dZ szo) A.azo (.ref A.cOrd) Ar outer s H2 E).env = pure (cloFrom (cxOf CX0 P w K mg base ["self", "grid", "rank"] "Markers.order" (dZ szo) A.azo (.ref A.cOrd) Ar outer s H2 E).env.cells (dZ rkSt).names []) :=
  closure_ok fun y hy hf => I.ok.has y.1 (.inl (rk_free y hy hf))
 refine wpAny_execs_cons (W.nestDef_K rfl rfl rfl (wpAny_mono (made_rank I B htb rfl T.cdHd hcl rfl) (fun v s2 hm => ?_) (fun _ _ h => h)))
 obtain ⟨f, c', fo, H1, rfl, M⟩ := hm
 have I2 := M.inv.pins_of (pins' := pins ++ [(f, fo)]) fun p hp => by
  rcases List.mem_append.mp hp with hp | hp
  ·exact M.inv.pin p (List.mem_append_right _ hp)
  ·have e : p = (f, fo) := by simpa using hp
   subst e
   obtain ⟨d1, d2, d3, hfo⟩ := M.dat
   exact ⟨M.at_, M.nf, M.nl, M.ns, fun v q => by rw [hfo] at q; cases q⟩
 refine store_ok (i := 2) (v := .ref f) I2 sczo.nd rfl (Or.inl rfl) rfl (fun s3 I3 => ?_)
 have hT1 : TabA A H1 x t := hT.keep M.kp fun y hy q => by
  have e : y = A.pT := by simpa using q
  subst e
  obtain ⟨kvs, ⟨⟨dm, h1⟩, h2, h3, h4⟩, h5⟩ := hT
  have hy' : A.pT = x.m ∨ A.pT = x.pl ∨ A.pT = x.cl := by simpa [MA.fp] using hy
  rcases htb with z | ⟨c, z, _⟩ <;> rcases hy' with e | e | e <;> rw [e] at z
  ·rw [h1] at z; cases z
  ·rw [h5] at z; cases z
  ·rw [h4] at z; cases z
  ·rw [h1] at z; cases z
  ·rw [h5] at z; cases z
  ·rw [h4] at z; cases z
 have npT : ∀ {y : Addr} {o : HO}, H2 y = some o → (∀ ps, o ≠ .tbl ps) → y ∉ [A.pT] := fun {y o} hy ho q => by
  have e : y = A.pT := by simpa using q
  subst e
  rcases htb with z | ⟨c, z, _⟩
  ·rw [hy] at z; cases z; exact ho _ rfl
  ·rw [hy] at z; cases z; exact ho _ rfl
 have hG1 : GridA A H1 g w1 rs b := by
  obtain ⟨⟨dg, hg⟩, ⟨hw, hrs⟩⟩ := hG
  refine GridA.keep ⟨⟨dg, hg⟩, ⟨hw, hrs⟩⟩ M.kp (npT hg fun _ z => nomatch z) (npT hw fun _ z => nomatch z) fun r hr' => ?_
  obtain ⟨j, hj⟩ := List.getElem?_of_mem hr'
  obtain ⟨row, hrow⟩ : ∃ row, b[j]? = some row := ⟨_, List.getElem?_eq_getElem (by have := plen hrs; have := (List.getElem?_eq_some_iff.mp hj).1; omega)⟩
  obtain ⟨r', q1, cs, hcs, _⟩ := pget hrs hrow
  rw [hj] at q1
  cases q1
  exact npT hcs fun _ z => nomatch z
 obtain ⟨kvs, ⟨⟨dm, hm⟩, hp, hkv, hcl'⟩, hp'⟩ := hT1
 refine wpAny_execs_cons (wpAny_Return_some (wpAny_Call_Name_kw (ld_blt I3 rfl T.nsorted bt_sorted (callWith_kw ?_))))
 refine thn ((pA (pe_fld (pv 0) rfl) pZ) _ (pins ++ [(f, fo)]) s3 _ H1 (fun vs H' => vs = [.ref x.pl] ∧ H' = H1) I3 ⟨_, rfl, x.m, A.cMarkers, dm, _, _, rfl, hm, T.clMarkers, T.nMp, rfl, rfl, rfl⟩) fun us s4 ⟨vs4, H4, I4, rv4, q4, q4'⟩ => ?_
 subst q4 q4'
 refine thn ((pk_cons (pv 2) pk_nil) _ (pins ++ [(f, fo)]) s4 _ H4 (fun vs H' => vs = [.ref f] ∧ H' = H4) I4 ⟨_, rfl, rfl, rfl⟩) fun us2 s5 ⟨vs5, H5, I5, rv5, q5, q5'⟩ => ?_
 subst q5 q5'
 rw [Vals.ref1 rv4, Vals.ref1 rv5]
 have hz := kv_keys hkv
 have main := sorted_run (Q := fun v H' => Q v H') (rk := fun z => rank b (mkOf t z).place) rfl I5 hp' hz (fun z _ e => by cases e) (by rw [List.length_map]; have := TI.len; omega) (f := f) ?turn ?fin
 case turn =>
  intro pins' s' H' z v J hpin kp hv hzz
  obtain ⟨mk, hmk, rfl⟩ := List.mem_map.mp hzz
  have hfo := (J.pin (f, fo) (List.mem_append_right _ (hpin _ (List.mem_append_right _ (.head _))))).1
  obtain ⟨doc', pm', ct', hfo'⟩ := M.dat
  have hcr : s'.heap.CodeRec (.ref c') rankQual := (show _ ∧ _ from J.hok c' _ (kp.at_ M.ext)).1
  obtain ⟨a, hva, hpa⟩ := kv_some (c := mk.company) (kv_keep kp hkv) (find_nd TI.nd hmk)
  have hpb := TI.pl mk hmk
  obtain ⟨m0, hns, hl⟩ := J.loc
  have hself : ∃ c, (cxOf CX0 P w K mg base ["self", "grid", "rank"] "Markers.order" (dZ szo) A.azo (.ref A.cOrd) Ar outer s H2 E).env.cells.lookup ("self" : Str) = some c ∧ s'.heap.IsCell c (some (.ref x.m)) := by
   obtain ⟨u, ru, hlk⟩ := hl 0 "self" (.ref x.m) rfl rfl (Or.inr (Or.inl rfl))
   cases ru
   rcases hlk with ⟨q, _⟩ | ⟨_, c, q1, q2⟩
   ·cases q
   ·exact ⟨c, q1, q2⟩
  have hgrid : ∃ c, (cxOf CX0 P w K mg base ["self", "grid", "rank"] "Markers.order" (dZ szo) A.azo (.ref A.cOrd) Ar outer s H2 E).env.cells.lookup ("grid" : Str) = some c ∧ s'.heap.IsCell c (some (.ref g)) := by
   obtain ⟨u, ru, hlk⟩ := hl 1 "grid" (.ref g) rfl rfl (Or.inr (Or.inl rfl))
   cases ru
   rcases hlk with ⟨q, _⟩ | ⟨_, c, q1, q2⟩
   ·cases q
   ·exact ⟨c, q1, q2⟩
  have hc : ∀ (y : Str) (c : Addr), (cloFrom (cxOf CX0 P w K mg base ["self", "grid", "rank"] "Markers.order" (dZ szo) A.azo (.ref A.cOrd) Ar outer s H2 E).env.cells (dZ rkSt).names []).lookup y = some c →
    (cxOf CX0 P w K mg base ["self", "grid", "rank"] "Markers.order" (dZ szo) A.azo (.ref A.cOrd) Ar outer s H2 E).env.cells.lookup y = some c := fun y c h => by
   rcases cloFrom_mem (lookup_mem h) with q | ⟨q1, q2⟩
   ·cases q
   ·obtain ⟨c0, h0⟩ := J.ok.has y (.inl (rk_free _ q1 rfl))
    rw [h0] at q2
    rw [h0, q2]
    rfl
  have hfree : ∀ y : Str, ((dZ rkSt).names.lookup y = some .cell ∨ (dZ rkSt).names.lookup y = some .free) → ∃ c, (cloFrom (cxOf CX0 P w K mg base ["self", "grid", "rank"] "Markers.order" (dZ szo) A.azo (.ref A.cOrd) Ar outer s H2 E).env.cells (dZ rkSt).names []).lookup y = some c := fun y h => by
   rcases h with h | h
   ·exact absurd rfl (rk_nocell _ (lookup_mem h))
   ·exact mem_lookup (cloFrom_has (lookup_mem h))
  have hrc := room2 (k := 2) (hr.mono (by decide : 3 ≤ 4))
  have hG' := hG1.keep0 kp
  obtain ⟨dg, hg'⟩ := hG'.ins
  have ndN : (["company", "place", "grid", "self"] : List Str).Nodup := by decide +kernel
  refine clo_call (A' := (cxOf CX0 P w K mg base ["self", "grid", "rank"] "Markers.order" (dZ szo) A.azo (.ref A.cOrd) Ar outer s H2 E).A.in1.in1) (N := ["company", "place", "grid", "self"]) (σ' := [some (.int (mk.company : Nat)), none, some (.ref g), some (.ref x.m)]) (x := "company") (name := "rank") (qual := rankQual) (params := defArgs rkSt) (body := defBody rkSt) (scope := dZ rkSt)
   (cl := cloFrom (cxOf CX0 P w K mg base ["self", "grid", "rank"] "Markers.order" (dZ szo) A.azo (.ref A.cOrd) Ar outer s H2 E).env.cells (dZ rkSt).names []) (cdv := .ref c') (doc := doc') (pm := pm') (ct := ct') J hfo (by rw [hfo']) hcr J.ok.frames (J.ok.hd rfl) ?room (BindsTo.of_eq rfl) rk_nocell rfl rfl rfl rfl hc hfree rfl ?hv
   (pQ (ps_set (i := 1) ndN rfl (Or.inl rfl) (pe_dget (by exact hu_of (hrc.deeper _)) (pe_fld (pv 3) rfl) (pv 0) (fun _ _ => rfl)))
    (pI (pY (pe_tup (pA (pe_un un_neg (pe_meth (pv 2) T.clGrid T.mzd Gzd (by exact hrc.deeper _) T.bzd .nil pass0 (pA (pv 1) pZ))) (pA (pe_un un_neg (pe_ix ix_tup (pv 1) pe_int (fun _ _ => rfl))) (pA (pe_ix ix_tup (pv 1) pe_int (fun _ _ => rfl)) pZ))))))) ?read
  case room => exact Nat.lt_of_le_of_lt (by show _ ≤ _ + 3 * 4 + 5; exact Nat.le_trans (Nat.le_refl (Ar.deeper (envOfC "Markers.order" (dZ szo) s.heap.objs.size A.azo (.ref A.cOrd))).depth) (by omega)) hr.dp
  case hv =>
   intro h₁ hk i y u hi hu hvis
   match i, hi, hu with
   | 0, hi, hu =>
    cases hi
    cases hu
    exact ⟨v, hv, .inl ⟨rfl, rfl⟩⟩
   | 1, hi, hu => cases hu
   | 2, hi, hu =>
    cases hi
    cases hu
    obtain ⟨c, q1, q2⟩ := hgrid
    obtain ⟨c2, q3⟩ := hfree "grid" (.inr rfl)
    have := hc _ _ q3
    rw [q1] at this
    cases this
    obtain ⟨o, ho, hd⟩ := q2
    exact ⟨.ref g, rfl, .inr ⟨.inr rfl, c, q3, o, hk _ _ ho, hd⟩⟩
   | 3, hi, hu =>
    cases hi
    cases hu
    obtain ⟨c, q1, q2⟩ := hself
    obtain ⟨c2, q3⟩ := hfree "self" (.inr rfl)
    have := hc _ _ q3
    rw [q1] at this
    cases this
    obtain ⟨o, ho, hd⟩ := q2
    exact ⟨.ref x.m, rfl, .inr ⟨.inr rfl, c, q3, o, hk _ _ ho, hd⟩⟩
   | i + 4, hi, hu => cases hi
  case read =>
   have hdg : DGet H' x.pl (L2.kV (Sum.inl (mk.company : Int))) (some (.ref a)) := .inl ⟨kvs, _, .inl (kp.at_ hp'), rfl, hva.symm⟩
   refine ⟨_, rfl, x.m, A.cMarkers, dm, _, _, rfl, kp.at_ hm, T.clMarkers, T.nMp, rfl, _, rfl, x.pl, _, rfl, hdg, ?_⟩
   refine ⟨_, rfl, g, dg, _, rfl, hg', rfl, _, rfl, g, w1, rs, b, a, mk.place, rfl, hG', hpa, hpb, _, rfl, _, rfl, a, _, _, _, rfl, rfl, SqT.of hpa, rfl, _, rfl, _, rfl, a, _, _, _, rfl, rfl, SqT.of hpa, rfl, sz, fun p hp => ⟨p, rfl, ?_, .new hp⟩⟩
   rw [mkOf_at TI hmk]
   exact uS
 case fin =>
  intro zs' H6 q so hq kp nq
  have hq' : H6 q = some (.lst (iVs zs')) := hq
  rw [order_of TI so] at hq'
  exact k H6 q hq' (M.tbl.keep0 kp) (M.kp.trans kp.any) (M.kp.dom _ nq)
 exact wpAny_mono main (fun u s6 ⟨v, H6, I6, rv, qv⟩ => ⟨v, _, H6, I6.pins_of fun p hp => I6.pin p (List.mem_append_right _ (List.mem_append_left _ hp)), rv, by rw [hD]; exact qv⟩) fun _ _ h => h
end
end Pb
namespace Pb
open PySem PySem.Spec PyProof.Rows L2 Vb
open Vbsgae (Cell Board Marker Table State)
section
variable (P : Program) (w : World) {K : W.Frag} {mg : Str → Option Value} (base : Heap) {A : Adr}
theorem GameA.retab {H H' : Hp} {G : GA} {s : State} (h : GameA A H G s) (e : Kp [A.pT] H H') (ht : TblOk A H') : GameA A H' G s := by
 have hnd := h.nd
 unfold GA.mut at hnd
 obtain ⟨hn1, hnd⟩ := List.nodup_cons.mp hnd
 obtain ⟨hn2, hnd⟩ := List.nodup_cons.mp hnd
 obtain ⟨hn3, hnd⟩ := List.nodup_cons.mp hnd
 have nx : ∀ x ∈ G.cur :: G.past, ∀ y ∈ x.fp, y ∉ [A.pT] := fun x hx y hy q => hn3 (by
  have : y = A.pT := by simpa using q
  rw [← this]
  exact List.mem_flatMap.mpr ⟨x, hx, hy⟩)
 have nf : ∀ x ∈ G.fix, x ∉ [A.pT] := fun x hx q => h.dis x hx (by
  have : x = A.pT := by simpa using q
  rw [this]
  exact .tail _ (.tail _ (.head _)))
 refine ⟨let ⟨dg, a⟩ := h.ins; ⟨dg, e.kp _ _ a fun q => hn1 (by
   have : G.g = A.pT := by simpa using q
   rw [this]
   exact .tail _ (.head _))⟩, h.grid.keep e (nf _ (.head _)) (nf _ (.tail _ (.head _))) fun r hr => nf r (.tail _ (.tail _ hr)), h.cur.keep e (nx _ (.head _)), e.kp _ _ h.pst fun q => hn2 (by
   have : G.ps = A.pT := by simpa using q
   rw [this]
   exact .head _), past_keep e h.past fun x hx => nx x (.tail _ hx), ht, h.nd, h.dis⟩
theorem pT_mut {G : GA} : A.pT ∈ G.mut A := .tail _ (.tail _ (.head _))
theorem Fin.retab {Q : VK} {G : GA} {r a : Addr} {i : Nat} {H1 H2 : Hp} {res : State × List Int} (F : Fin A Q G r a i H1 res) (e : Kp [A.pT] H1 H2) : Fin A Q G r a i H2 res := fun H' G' p h1 h2 h3 h4 h5 h6 =>
 F H' G' p h1 h2 h3 h4 ((e.mono fun x hx => by
  have : x = A.pT := by simpa using hx
  rw [this]
  exact .tail _ pT_mut).trans h5) fun x hx => (h6 x hx).imp id (e.dom x)
theorem okz3 (T : Txt K mg A) (B : BMain mg base) : FnOk P w K mg base CX0 6 A.az3 A.dz3 ["game", "reader"] (spCall K A 10) := by
 have GzN := okzN P w base T
 have Gzo := okzo P w base T B
 refine T.fz3.ok (k := 5) scz3 (fun vs H Q E h => ?_) (fun cdv Ar outer s H vs Q E hr h => ?_)
 ·obtain ⟨_, _, _, _, _, _, _, _, rfl, _⟩ := h; rfl
 obtain ⟨G, r, a, ns, i, s, c, t, rfl, hA, S, hR, hC, hr1, hr2, hcall, hask, k⟩ := h
 refine ⟨_, (pI (pY (pe_call GzN (hr.mono (by decide : 1 ≤ 5)) rfl T.gzN T.fzN.kp T.bzN .nil pass0 (pA (pe_meth (pe_fld (pv 0) rfl) T.clMarkers T.mzo Gzo (hr.mono (by decide : 5 ≤ 5)) T.bzo .nil pass0 (pA (pe_fld (pv 0) rfl) pZ)) pZ)))), ?_⟩
 obtain ⟨rfl, -, rfl⟩ := dec0 (n := 0) rfl hcall
 have F : Fin A Q G r a i H (s, Vbsgae.counted (Vbsgae.order s)) := fin_of k (.refl _ _) rfl
 obtain ⟨dg, hg⟩ := hA.ins
 obtain ⟨kvs, hT, hp'⟩ := hA.cur
 obtain ⟨dm, hm⟩ := hT.ins
 refine ⟨_, rfl, G.g, A.cGame, dg, _, _, rfl, hg, T.clGame, T.nGm, rfl, G.cur.m, dm, _, rfl, hm, rfl, _, rfl, G.g, A.cGame, dg, _, _, rfl, hg, T.clGame, T.nGg, rfl, G.cur, s.table, G.gr, G.w, G.rs, s.board, rfl, hA.cur, S.tab, hA.grid, hA.tbl, fun H1 q hq htb1 e1 nq => ?_⟩
 have hA1 := hA.retab e1 htb1
 have hR1 := hR.keep e1 (fun z => hr1 (by
  have : r = A.pT := by simpa using z
  rw [this]
  exact pT_mut))
 have hol : (Vbsgae.order s).length ≤ 8 := by rw [order_len]; exact S.tab.len
 refine ⟨q, nVs (Vbsgae.order s), rfl, .inl (SqL.of hq), by rw [List.length_map]; omega, fun H2 p hp np e2 => (F.retab e1).same rfl hA1 hR1 e2 ?_⟩
 rw [counted_l]
 exact hp
theorem okyc (T : Txt K mg A) (B : BMain mg base) : FnOk P w K mg base CX0 6 A.ayc A.dyc ["game", "reader"] (spCall K A 19) := by
 have GzK := okzK P w base T
 have GzO := okzO P w base T
 have Gzo := okzo P w base T B
 refine T.fyc.ok (k := 5) scyc (fun vs H Q E h => ?_) (fun cdv Ar outer s H vs Q E hr h => ?_)
 ·obtain ⟨_, _, _, _, _, _, _, _, rfl, _⟩ := h; rfl
 obtain ⟨G, r, a, ns, i, s, c, t, rfl, hA, S, hR, hC, hr1, hr2, hcall, hask, k⟩ := h
 refine ⟨_, (pQ (ps_set (i := 2) scyc.nd rfl (Or.inl rfl) (pe_meth0 (pv 1) T.clReader T.mzK GzK (hr.mono (by decide : 1 ≤ 5)) T.bzK .nil pass0))
  (pQ (ps_set (i := 3) scyc.nd rfl (Or.inl rfl) (pe_meth0 (pv 1) T.clReader T.mzK GzK (hr.mono (by decide : 1 ≤ 5)) T.bzK .nil pass0))
  (pQ (ps_if (PW.pt (pw_or (pt_not (pt_val (pe_call GzO (hr.mono (by decide : 1 ≤ 5)) rfl T.gzO T.fzO.kp T.bzO .nil pass0 (pA (pv 0) (pA (pv 2) pZ))))) (pw_or1 (pt_not (pt_val (pe_call GzO (hr.mono (by decide : 1 ≤ 5)) rfl T.gzO T.fzO.kp T.bzO .nil pass0 (pA (pv 0) (pA (pv 3) pZ)))))))) (pI (pY (pe_lst (pA (pe_glob (v := .int (-1)) rfl T.gxv ⟨_, rfl⟩) pZ)))) pss_nil)
  (pQ (ps_set (i := 4) scyc.nd rfl (Or.inl rfl) (pe_meth (pe_fld (pv 0) rfl) T.clMarkers T.mzo Gzo (hr.mono (by decide : 5 ≤ 5)) T.bzo .nil pass0 (pA (pe_fld (pv 0) rfl) pZ)))
  (pI (pY (pe_lst (pA (pe_ifExp (pt_cmpR op_lt (pe_bm PySem.F.plainAttrs_list PySem.F.slot_list_index PySem.F.type_list_index mt_index (pv 4) (pA (pv 2) pZ)) (pe_bm PySem.F.plainAttrs_list PySem.F.slot_list_index PySem.F.type_list_index mt_index (pv 4) (pA (pv 3) pZ)) (nomark _)) pe_int pe_int) pZ)))))))), ?_⟩
 obtain ⟨rfl, hn, rfl⟩ := dec0 (n := 2) rfl hcall
 obtain ⟨z, y, hz, hy, ht, hd⟩ := t2 hn
 rw [ht] at k
 rw [hd] at k
 obtain ⟨dx, hR'⟩ := hR
 refine ⟨_, rfl, r, dx, _, rfl, hR', rfl, r, a, ns, i, z, rfl, ⟨dx, hR'⟩, hC, hz, fun H1 hR1 e1 => ?_⟩
 have hC1 := hC.keepR e1 ⟨dx, hR'⟩
 obtain ⟨dx1, hR1'⟩ := hR1
 refine ⟨_, rfl, r, dx1, _, rfl, hR1', rfl, r, a, ns, i + 1, y, rfl, ⟨dx1, hR1'⟩, hC1, hy, fun H2 hR2 e2 => ?_⟩
 have e12 := e1.trans e2
 have F : Fin A Q G r a (i + 2) H2 (Vbsgae.step s (.first z y)) := fin_of k e12 rfl
 have hA1 := hA.keepR e12 ⟨dx, hR'⟩ hr1 hr2
 have hcur := hA1.cur
 obtain ⟨kvs, hT, hp'⟩ := hA1.cur
 unfold Vbsgae.step at F
 dsimp only at F
 have no : (Vbsgae.onBoard s z && Vbsgae.onBoard s y) = false → Fin A Q G r a (i + 2) H2 (s, [-1]) := fun h => by
  rw [asked_no h] at F
  exact F
 refine ⟨_, rfl, _, rfl, G.g, G.gr, G.ps, G.cur, s.table, kvs, z, rfl, hA1.ins, hT, _, rfl, ?_⟩
 rw [kv_on hT S.tab z]
 refine ite2 (fun h => ?_) (fun h => ?_)
 ·have h' : Vbsgae.onBoard s z = false := by simpa using h
  exact iteT ⟨sz, fun q hq => (no (by rw [h']; rfl)).one hA1 hR2 (.refl _ _) hq⟩
 have h' : Vbsgae.onBoard s z = true := by simpa using h
 refine ⟨_, rfl, _, rfl, G.g, G.gr, G.ps, G.cur, s.table, kvs, y, rfl, hA1.ins, hT, _, rfl, ?_⟩
 rw [kv_on hT S.tab y]
 refine ite2 (fun h2 => ?_) (fun h2 => ?_)
 ·have h2' : Vbsgae.onBoard s y = false := by simpa using h2
  exact ⟨sz, fun q hq => (no (by rw [h', h2']; rfl)).one hA1 hR2 (.refl _ _) hq⟩
 have h2' : Vbsgae.onBoard s y = true := by simpa using h2
 rw [asked_yes (by rw [h', h2']; rfl), asked_nil] at F
 obtain ⟨c1, m1, a1, rfl, b2, b3, b4, b5, b6, b7, b8⟩ := onT hT S h'
 obtain ⟨c2, m2, a2, rfl, d2, d3, d4, d5, d6, d7, d8⟩ := onT hT S h2'
 have F : Fin A Q G r a (i + 2) H2 (s, [if Vbsgae.before s.board m1 m2 = true then 1 else 0]) := by
  have := F
  simp only [b2, b3, d2, d3] at this
  exact this
 obtain ⟨dg, hg⟩ := hA1.ins
 obtain ⟨dm, hm⟩ := hT.ins
 refine ⟨_, rfl, G.g, A.cGame, dg, _, _, rfl, hg, T.clGame, T.nGm, rfl, G.cur.m, dm, _, rfl, hm, rfl, _, rfl, G.g, A.cGame, dg, _, _, rfl, hg, T.clGame, T.nGg, rfl, G.cur, s.table, G.gr, G.w, G.rs, s.board, rfl, hcur, S.tab, hA1.grid, hA1.tbl, fun H3 q hq htb3 e3 nq => ?_⟩
 have hA3 := hA1.retab e3 htb3
 have hR3 := hR2.keep e3 (fun z => hr1 (by
  have : r = A.pT := by simpa using z
  rw [this]
  exact pT_mut))
 have hq' : H3 q = some (.lst (nVs (Vbsgae.order s))) := hq
 obtain ⟨j1, hj1, g1, g1'⟩ := index_n (l := Vbsgae.order s) (c := c1) (order_mem.mpr ⟨m1, b4, b5⟩)
 obtain ⟨j2, hj2, g2, g2'⟩ := index_n (l := Vbsgae.order s) (c := c2) (order_mem.mpr ⟨m2, d4, d5⟩)
 have o1 : (Vbsgae.order s)[j1]? = some m1.company := by
  obtain ⟨d, hd, e⟩ := n_at g1
  have : d = c1 := by injection e with e; omega
  rw [hd, this, b5]
 have o2 : (Vbsgae.order s)[j2]? = some m2.company := by
  obtain ⟨d, hd, e⟩ := n_at g2
  have : d = c2 := by injection e with e; omega
  rw [hd, this, d5]
 have hfe := first_eq S.tab b4 d4 o1 o2
 refine ⟨_, rfl, .inl ⟨rfl, _, SqL.of hq'⟩, _, rfl, q, _, _, j1, _, rfl, rfl, SqL.of hq', rfl, flat_n _, g1, by rw [eqV_int]; exact decide_eq_true rfl, g1', ?_⟩
 refine ⟨_, rfl, .inl ⟨rfl, _, SqL.of hq'⟩, _, rfl, q, _, _, j2, _, rfl, rfl, SqL.of hq', rfl, flat_n _, g2, by rw [eqV_int]; exact decide_eq_true rfl, g2', _, _, rfl, rfl, _, rfl, ?_⟩
 rw [hfe] at F
 refine ite2 (fun h3 => ?_) (fun h3 => ?_)
 ·have h3' : (j1 : Int) < (j2 : Int) := dT h3
  rw [if_pos (decide_eq_true (by omega))] at F
  exact ⟨sz, fun p hp => (F.retab e3).one hA3 hR3 (.refl _ _) hp⟩
 ·have h3' : ¬ (j1 : Int) < (j2 : Int) := dF h3
  rw [if_neg (fun e => h3' (by have := of_decide_eq_true e; omega))] at F
  exact ⟨sz, fun p hp => (F.retab e3).one hA3 hR3 (.refl _ _) hp⟩
end
end Pb
namespace Pb
open PySem PySem.Spec PyProof.Rows L2 Vb
open Vbsgae (Cell Board Marker Table State)
section
variable (P : Program) (w : World) {K : W.Frag} {mg : Str → Option Value} (base : Heap) {A : Adr}
theorem find_other {c c' : Nat} (h : c ≠ c') : ∀ ms : List Marker, (ms.filter fun m => m.company != c').find? (fun m => m.company == c) = ms.find? (fun m => m.company == c)
 | [] => rfl
 | y :: ms => by
  rw [List.filter_cons]
  by_cases hy : y.company = c'
  ·rw [if_neg (by simp [hy]), find_other h ms, List.find?_cons]
   have : (y.company == c) = false := by rw [hy]; simpa using h.symm
   rw [this]
  ·rw [if_pos (by simpa using hy), List.find?_cons, List.find?_cons, find_other h ms]
theorem carried_other {b : Board} {t : Table} {c c' : Nat} {l : List Nat} (h : c ≠ c') : Vbsgae.markerOf (Vbsgae.carried b t c' l) c = Vbsgae.markerOf t c := by
 unfold Vbsgae.carried
 cases e : Vbsgae.markerOf t c' with
 | none => rfl
 | some m =>
  dsimp only
  by_cases h1 : Vbsgae.go b m.place l = m.place
  ·rw [if_pos h1]
  ·rw [if_neg h1]
   by_cases h2 : Vbsgae.closes b (Vbsgae.go b m.place l) = true
   ·rw [if_pos h2]
    exact find_other h _
   ·rw [if_neg h2]
    show List.find? _ (_ ++ [_]) = _
    rw [List.find?_append]
    have e1 : (Vbsgae.without t c').find? (fun m => m.company == c) = t.markers.find? (fun m => m.company == c) := find_other h _
    have e2 : ([⟨c', Vbsgae.go b m.place l, t.next⟩] : List Marker).find? (fun m => m.company == c) = none := by
     rw [List.find?_cons]
     have : (c' == c) = false := by simpa using h.symm
     rw [this]
     rfl
    rw [e1, e2, Option.or_none]
    rfl
theorem fold_other {b : Board} {c : Nat} {l : List Nat} : ∀ (cs : List Nat) (t : Table), c ∉ cs → Vbsgae.markerOf (cs.foldl (fun t c => Vbsgae.carried b t c l) t) c = Vbsgae.markerOf t c
 | [], _, _ => rfl
 | d :: cs, t, h => by
  show Vbsgae.markerOf (cs.foldl _ (Vbsgae.carried b t d l)) c = _
  rw [fold_other cs _ fun q => h (.tail _ q), carried_other fun q => h (by rw [q]; exact .head _)]
theorem ok_1 : okMs [1] := fun x hx => by
 have : x = 1 := by simpa using hx
 omega
theorem okzZ (T : Txt K mg A) (B : BMain mg base) : FnOk P w K mg base CX0 6 A.azZ A.dzZ ["game", "reader"] (spCall K A 6) := by
 have GzM := okzM P w base T
 have GzO := okzO P w base T
 have Gzr := okzr P w base T
 have Gzo := okzo P w base T B
 have Gzm := okzm P w base T
 refine T.fzZ.ok (k := 5) sczZ (fun vs H Q E h => ?_) (fun cdv Ar outer s H vs Q E hr h => ?_)
 ·obtain ⟨_, _, _, _, _, _, _, _, rfl, _⟩ := h; rfl
 obtain ⟨G, r, a, ns, i, s, c, t, rfl, hA, S, hR, hC, hr1, hr2, hcall, hask, k⟩ := h
 refine ⟨_, (pQ (ps_set (i := 2) sczZ.nd rfl (Or.inr rfl) (pe_meth0 (pv 1) T.clReader T.mzM GzM (hr.mono (by decide : 2 ≤ 5)) T.bzM .nil pass0))
  (pQ (ps_if (pt_not (pt_val (pe_callB (cr_all rfl) (by rfl) T.nall bt_all (pA (pe_lc (own := [("company", 3)]) rfl sczZ.nd (pi_list (pv 2)) (blkOk_by rfl) (by intro s H C cl fp; exact pg_name (i := 3) sczZ.nd rfl (Or.inl rfl)) (by intro s H C cl fp; exact pts_nil) (by intro s H C cl fp; exact (pe_call GzO (hr.mono (by decide : 1 ≤ 5)) rfl T.gzO T.fzO.kp T.bzO .nil pass0 (pA (pv 0) (pA (pv 3) pZ))))) pZ)))) (pI (pY (pe_lst (pA (pe_glob (v := .int (-1)) rfl T.gxv ⟨_, rfl⟩) pZ)))) pss_nil)
  (pQ (ps_if (pt_cmpR op_lt (pe_callB call_lenS (by rfl) T.nlen bt_len (pA (pe_callTy (cr_set rfl) (by rfl) T.nset bt_set (pA (pv 2) pZ)) pZ)) (pe_callB call_len_seq (by rfl) T.nlen bt_len (pA (pv 2) pZ)) (nomark _)) (pI (pY (pe_lst (pA (pe_glob (v := .int (-6)) rfl T.gxA ⟨_, rfl⟩) pZ)))) pss_nil)
  (pQ (ps_expr (pe_meth0 (pv 0) T.clGame T.mzr Gzr (hr.mono (by decide : 4 ≤ 5)) T.bzr .nil pass0))
  (pQ (ps_setLc (i := 4) (own := [("company", 3)]) rfl sczZ.nd rfl rfl (sw_true rfl rfl rfl rfl) (pi_list (pe_meth (pe_fld (pv 0) rfl) T.clMarkers T.mzo Gzo (hr.mono (by decide : 5 ≤ 5)) T.bzo .nil pass0 (pA (pe_fld (pv 0) rfl) pZ))) (blkOk_by rfl) (by intro s H C cl fp; exact pg_name (i := 3) sczZ.nd rfl (Or.inl rfl)) (by intro s H C cl fp; exact (pts_one (pt_cmpR (op_in_seqK (K := K) rfl) (pv 3) (pv 2) rfl))) (by intro s H C cl fp; exact (pv 3)))
  (pQ (ps_for PassesOwn.never rfl (pi_list (pv 4)) (pg_name (i := 3) sczZ.nd rfl (Or.inl rfl)) (pI (ps_expr (pe_meth (pe_fld (pv 0) rfl) T.clMarkers T.mzm Gzm (hr.mono (by decide : 4 ≤ 5)) T.bzm .nil pass0 (pA (pe_fld (pv 0) rfl) (pA (pv 3) (pA (pe_lst (pA (pe_glob (v := .int (1)) rfl T.gxa ⟨_, rfl⟩) pZ)) pZ)))))))
  (pI (pY (pe_lst (pA (pe_callB call_len_seq (by rfl) T.nlen bt_len (pA (pv 2) pZ)) pZ)))))))))), ?_⟩
 obtain ⟨z0, r2, hd0, h0, hz0, rfl, hn, rfl⟩ := dec1 (n := 0) rfl hcall
 rw [List.drop_zero] at hd0
 rw [tRow hd0] at k
 have h70 : (r2.take z0.toNat).length ≤ 70 := w60_len hask
 generalize hlst : r2.take z0.toNat = lst at *
 obtain ⟨dx, hR'⟩ := hR
 refine ⟨_, rfl, r, dx, _, rfl, hR', rfl, r, a, ns, i, z0, r2, rfl, ⟨dx, hR'⟩, hC, hd0, h0, hz0, fun H1 l hl nl hR1 e1 => ?_⟩
 rw [hlst] at hl
 have F : Fin A Q G r a (i + 1 + z0.toNat) H1 (Vbsgae.step s (.soldout lst)) := fin_of k e1 rfl
 have hA1 := hA.keepR e1 ⟨dx, hR'⟩ hr1 hr2
 unfold Vbsgae.step at F
 dsimp only at F
 have hlm : ∀ y ∈ G.mut A ++ G.fix, y ≠ l := fun y hy => ne_some (hA.ats y hy) nl
 obtain ⟨kvs, hT, hp'⟩ := hA1.cur
 have hgm := hA1.gm
 refine ⟨_, rfl, l, rfl, ⟨_, SqL.of hl⟩, fun D hD => ?_⟩
 refine lc_list (xs := iVs lst) (fun j H2 => H2 D = some (.lst (((lst.take j).map (Vbsgae.onBoard s)).map V.bl)) ∧ Kp [] H1 H2) ⟨uS, .new hD⟩ ?_ ?_ ?_
 ·rintro j H2 _ ⟨q1, e2⟩
  exact SqL.of (e2.at_ hl)
 ·rintro j x H2 hx ⟨q1, e2⟩
  obtain ⟨z, hz, rfl⟩ := i_at hx
  refine ⟨rfl, yesI ⟨_, rfl, _, rfl, G.g, G.gr, G.ps, G.cur, s.table, kvs, z, rfl, let ⟨dg, q⟩ := hgm; ⟨dg, e2.at_ q⟩, hT.keep0 e2, _, q1, szlt (by rw [List.length_map, List.length_map, List.length_take]; omega), ?_, e2.put_new hD⟩⟩
  rw [uS, take_snoc hz, List.map_append, List.map_cons, List.map_nil, bl_app, kv_on hT S.tab z]
 rintro H2 ⟨q1, e2⟩
 have et : lst.take (iVs lst).length = lst := by rw [List.length_map]; exact List.take_length
 rw [et] at q1
 have hl2 := e2.at_ hl
 refine ⟨D, _, rfl, SqL.of q1, _, rfl, ?_⟩
 rw [show ((lst.map (Vbsgae.onBoard s)).all id) = lst.all (Vbsgae.onBoard s) by rw [List.all_map]; rfl]
 refine ite2 (fun h => ?_) (fun h => ?_)
 ·have h' : lst.all (Vbsgae.onBoard s) = false := Bool.not_eq_true' _ |>.mp h
  rw [asked_no h'] at F
  exact ⟨sz, fun p hp => F.one hA1 hR1 e2 hp⟩
 have h' : lst.all (Vbsgae.onBoard s) = true := by
  cases e : lst.all (Vbsgae.onBoard s) with
  | true => rfl
  | false => exact absurd (show (!lst.all (Vbsgae.onBoard s)) = true by rw [e]; rfl) h
 rw [asked_yes h'] at F
 refine ⟨_, rfl, l, lst, rfl, SqL.of hl2, by omega, fun f p Sf hf1 hf2 hf3 np => ?_⟩
 have e3 : Kp [] H1 (upd H2 p (.set Sf f.length)) := e2.trans (.new np)
 have hl3 := e3.at_ hl
 refine ⟨p, Sf, f.length, rfl, uS, by omega, _, rfl, l, _, rfl, .inl (SqL.of hl3), _, _, rfl, rfl, _, rfl, ?_⟩
 have hdist := distinct_len hf1 hf2
 refine ite2 (fun h2 => ?_) (fun h2 => ?_)
 ·have h2' : (f.length : Int) < ((iVs lst).length : Int) := dT h2
  rw [List.length_map] at h2'
  rw [asked_no (by rw [hdist, decide_eq_true h2']; rfl)] at F
  exact ⟨sz, fun p hp => F.one hA1 hR1 e3 hp⟩
 have h2' : ¬ (f.length : Int) < ((iVs lst).length : Int) := dF h2
 rw [List.length_map] at h2'
 rw [asked_yes (by rw [hdist, decide_eq_false h2']; rfl), asked_nil] at F
 have F3 := F.move e3
 have hA3 := hA1.keep0 e3
 have hR3 := hR1.keep0 e3
 show tSeq _ _ _ _ (upd H2 p (.set Sf f.length))
 clear hdist
 generalize upd H2 p (.set Sf f.length) = H3 at e3 hl3 F3 hA3 hR3
 obtain ⟨dg, hg⟩ := hA3.ins
 refine ⟨_, rfl, G.g, dg, _, rfl, hg, rfl, G, s, rfl, hA3, S.plen, fun H4 past hA4 e4 hnew => ?_⟩
 obtain ⟨dg4, hg4⟩ := hA4.ins
 have hcur4 := hA4.cur
 obtain ⟨kvs4, hT4, hp4⟩ := hA4.cur
 obtain ⟨dm4, hm4⟩ := hT4.ins
 have hl4 : H4 l = some (.lst (iVs lst)) := e4.kp _ _ hl3 (fun q => hlm G.ps (List.mem_append_left _ (.tail _ (.head _))) (List.mem_singleton.mp q).symm)
 refine ⟨_, rfl, G.g, A.cGame, dg4, _, _, rfl, hg4, T.clGame, T.nGm, rfl, G.cur.m, dm4, _, rfl, hm4, rfl, _, rfl, G.g, A.cGame, dg4, _, _, rfl, hg4, T.clGame, T.nGg, rfl, G.cur, s.table, G.gr, G.w, G.rs, s.board, rfl, hcur4, S.tab, hA4.grid, hA4.tbl, fun H5 q hq htb5 e5 nq => ?_⟩
 have hA5 := hA4.retab e5 htb5
 have hq5 : H5 q = some (.lst (nVs (Vbsgae.order s))) := hq
 have hl5 : H5 l = some (.lst (iVs lst)) := e5.kp _ _ hl4 (fun z => hlm A.pT (List.mem_append_left _ pT_mut) (List.mem_singleton.mp z).symm)
 have hol : (Vbsgae.order s).length ≤ 8 := by rw [order_len]; exact S.tab.len
 refine ⟨q, rfl, ⟨_, SqL.of hq5⟩, fun D2 hD2 => ?_⟩
 refine lc_list (xs := nVs (Vbsgae.order s)) (fun j H6 => H6 D2 = some (.lst (nVs (((Vbsgae.order s).take j).filter fun c => lst.contains (Int.ofNat c)))) ∧ Kp [] H5 H6) ⟨uS, .new hD2⟩ ?_ ?_ ?_
 ·rintro j H6 _ ⟨q1, e6⟩
  exact SqL.of (e6.at_ hq5)
 ·rintro j x H6 hx ⟨q1, e6⟩
  obtain ⟨c, hc, rfl⟩ := n_at hx
  have et := take_snoc hc
  refine ⟨rfl, _, rfl, _, rfl, l, _, rfl, .inl (SqL.of (e6.at_ hl5)), rfl, flat_i _, _, rfl, ?_⟩
  have ei : inV (nV c) (iVs lst) = lst.contains (Int.ofNat c) := by rw [show nV c = V.int (Int.ofNat c) from rfl, inV_i]; simp
  show if inV (nV c) (iVs lst) = true then _ else _
  rw [ei]
  refine ite2 (fun hq => ?_) (fun hq => ?_)
  ·refine ⟨_, rfl, _, q1, szlt ?_, ?_, e6.put_new hD2⟩
   ·have h3 := List.length_filter_le (fun c => lst.contains (Int.ofNat c)) ((Vbsgae.order s).take j)
    rw [List.length_take] at h3
    rw [List.length_map]
    omega
   ·rw [uS, et, List.filter_append, List.filter_cons, if_pos hq, nV_app]
    rfl
  ·refine ⟨?_, e6⟩
   rw [q1, et, List.filter_append, List.filter_cons, if_neg hq, List.filter_nil, List.append_nil]
 rintro H6 ⟨q1, e6⟩
 have et2 : (Vbsgae.order s).take (nVs (Vbsgae.order s)).length = Vbsgae.order s := by rw [List.length_map]; exact List.take_length
 rw [et2] at q1
 have hA6 := hA5.keep0 e6
 have hl6 := e6.at_ hl5
 have hnd : ((Vbsgae.order s).filter fun c => lst.contains (Int.ofNat c)).Nodup := (order_nodup S.tab).filter _
 have hin : ∀ c ∈ (Vbsgae.order s).filter fun c => lst.contains (Int.ofNat c), ∃ m, Vbsgae.markerOf s.table c = some m := fun c hc => by
  obtain ⟨m, hm, rfl⟩ := order_mem.mp (List.mem_filter.mp hc).1
  exact ⟨m, S.tab.markerOf hm⟩
 generalize ((Vbsgae.order s).filter fun c => lst.contains (Int.ofNat c)) = acts at q1 F3 hnd hin
 have hD2m : ∀ y ∈ GA.mut A { G with past := past } ++ GA.fix { G with past := past }, y ≠ D2 := fun y hy => ne_some (hA5.ats y hy) hD2
 refine ⟨_, rfl, D2, rfl, ⟨_, SqL.of q1⟩, for_list (xs := nVs acts) (fun j σ H7 => ∃ v3 : Option V, σ = [some (.ref G.g), some (.ref r), some (.ref l), v3, some (.ref D2)] ∧ GameA A H7 { G with past := past } ⟨s.board, (acts.take j).foldl (fun t c => Vbsgae.carried s.board t c [1]) s.table, (s.table :: s.past).take Vbsgae.PAST⟩ ∧ Kp G.cur.fp H6 H7) ⟨_, rfl, hA6, .refl _ _⟩ ?_ ?_ ?_⟩
 ·rintro j σ H7 _ ⟨v3, rfl, hA7, e7⟩
  exact SqL.of (e7.kp _ _ q1 fun z => hD2m D2 (List.mem_append_left _ (mut_fp (.head _) D2 z)) rfl)
 ·rintro j x σ H7 hx ⟨v3, rfl, hA7, e7⟩
  obtain ⟨c, hc, rfl⟩ := n_at hx
  obtain ⟨mk, hmk⟩ := hin c (List.mem_of_getElem? hc)
  have hnot : c ∉ acts.take j := fun z => by
   obtain ⟨j', hj'⟩ := List.getElem?_of_mem z
   have hlt : j' < j := by have := (List.getElem?_eq_some_iff.mp hj').1; rw [List.length_take] at this; omega
   rw [List.getElem?_take_of_lt hlt] at hj'
   have := nd_ix hnd hj' hc
   omega
  have hmk7 : Vbsgae.markerOf ((acts.take j).foldl (fun t c => Vbsgae.carried s.board t c [1]) s.table) c = some mk := by rw [fold_other _ _ hnot]; exact hmk
  obtain ⟨dg7, hg7⟩ := hA7.ins
  have hcur7 := hA7.cur
  obtain ⟨kvs7, hT7, hp7⟩ := hA7.cur
  obtain ⟨dm7, hm7⟩ := hT7.ins
  refine ⟨_, rfl, G.g, A.cGame, dg7, _, _, rfl, hg7, T.clGame, T.nGm, rfl, G.cur.m, dm7, _, rfl, hm7, rfl, _, rfl, G.g, A.cGame, dg7, _, _, rfl, hg7, T.clGame, T.nGg, rfl, _, rfl, sz, fun u hu => ?_⟩
  have e8 : Kp [] H7 (upd H7 u (.lst [nV 1])) := .new hu
  refine ⟨G.cur, _, G.gr, G.w, G.rs, s.board, c, u, [1], mk, rfl, hcur7.keep0 e8, TInv.folded S.tab, hA7.grid.keep0 e8, fun y hy z => hA.dis y hy (mut_fp (.head _) y z), cur_nd hA.nd, SqL.of uS, ok_1, hmk7, fun H9 tab9 e9 => ?_⟩
  refine ⟨_, rfl, ?_, (e7.trans e8.any).trans e9⟩
  rw [take_snoc hc, List.foldl_append]
  exact GameA.recur (hA7.keep0 e8) e9 tab9
 ·rintro σ H7 ⟨v3, rfl, hA7, e7⟩
  have et3 : acts.take (nVs acts).length = acts := by rw [List.length_map]; exact List.take_length
  rw [et3] at hA7
  have hl7 : H7 l = some (.lst (iVs lst)) := e7.kp _ _ hl6 fun z => hlm l (List.mem_append_left _ (mut_fp (.head _) l z)) rfl
  refine ⟨_, rfl, l, _, rfl, .inl (SqL.of hl7), sz, fun p hp => ?_⟩
  have e37 : Kp (G.mut A) H3 H7 := (((e4.mono fun x hx => by
    have : x = G.ps := by simpa using hx
    rw [this]
    exact .tail _ (.head _)).trans (e5.mono fun x hx => by
    have : x = A.pT := by simpa using hx
    rw [this]
    exact pT_mut)).trans e6.any).trans (e7.mono fun x hx => mut_fp (.head _) x hx)
  refine F3 _ { G with past := past } p rfl (hA7.keep0 (.new hp)) ((hR3.keep e37 hr1).keep0 (.new hp)) ?_ ((e37.mono fun x hx => .tail _ hx).trans (.new hp)) fun x hx => ?_
  ·rw [uS, List.length_map]
   rfl
  ·rcases List.mem_append.mp hx with hx | hx
   ·rcases hnew x hx with h | h
    ·exact .inl (List.mem_append_left _ h)
    ·exact .inr h
   ·exact .inl (List.mem_append_right _ hx)
end
end Pb
namespace Pb
open PySem PySem.Spec PyProof.Rows L2 Vb
open Vbsgae (Cell Board Marker Table State)
section
variable (P : Program) (w : World) {K : W.Frag} {mg : Str → Option Value} (base : Heap) {A : Adr}
theorem calls_ok (T : Txt K mg A) (B : BMain mg base) : ∀ j : Nat, j < 21 → ∃ (f : Addr) (fd : FuncData), ([.ref A.azT, .ref A.azU, .ref A.azV, .ref A.azW, .ref A.azX, .ref A.azY, .ref A.azZ, .ref A.az0, .ref A.az1, .ref A.az2, .ref A.az3, .ref A.az4, .ref A.az5, .ref A.az6, .ref A.az7, .ref A.az8, .ref A.az9, .ref A.aya, .ref A.ayb, .ref A.ayc, .ref A.ayd] : List V)[j]? = some (.ref f) ∧
  FnOk P w K mg base CX0 6 f fd ["game", "reader"] (spCall K A j) ∧ W.keepIn K (.ref f) = true ∧ Binds K fd ["game", "reader"] []
 | 0, _ => ⟨A.azT, A.dzT, rfl, (okzT P w base T).mono (by decide), T.fzT.kp, T.bzT⟩
 | 1, _ => ⟨A.azU, A.dzU, rfl, (okzU P w base T).mono (by decide), T.fzU.kp, T.bzU⟩
 | 2, _ => ⟨A.azV, A.dzV, rfl, (okzV P w base T).mono (by decide), T.fzV.kp, T.bzV⟩
 | 3, _ => ⟨A.azW, A.dzW, rfl, (okzW P w base T).mono (by decide), T.fzW.kp, T.bzW⟩
 | 4, _ => ⟨A.azX, A.dzX, rfl, (okzX P w base T).mono (by decide), T.fzX.kp, T.bzX⟩
 | 5, _ => ⟨A.azY, A.dzY, rfl, (okzY P w base T).mono (by decide), T.fzY.kp, T.bzY⟩
 | 6, _ => ⟨A.azZ, A.dzZ, rfl, (okzZ P w base T B).mono (by decide), T.fzZ.kp, T.bzZ⟩
 | 7, _ => ⟨A.az0, A.dz0, rfl, (okz0 P w base T).mono (by decide), T.fz0.kp, T.bz0⟩
 | 8, _ => ⟨A.az1, A.dz1, rfl, (okz1 P w base T).mono (by decide), T.fz1.kp, T.bz1⟩
 | 9, _ => ⟨A.az2, A.dz2, rfl, (okz2 P w base T).mono (by decide), T.fz2.kp, T.bz2⟩
 | 10, _ => ⟨A.az3, A.dz3, rfl, (okz3 P w base T B).mono (by decide), T.fz3.kp, T.bz3⟩
 | 11, _ => ⟨A.az4, A.dz4, rfl, (okz4 P w base T).mono (by decide), T.fz4.kp, T.bz4⟩
 | 12, _ => ⟨A.az5, A.dz5, rfl, (okz5 P w base T).mono (by decide), T.fz5.kp, T.bz5⟩
 | 13, _ => ⟨A.az6, A.dz6, rfl, (okz6 P w base T).mono (by decide), T.fz6.kp, T.bz6⟩
 | 14, _ => ⟨A.az7, A.dz7, rfl, (okz7 P w base T).mono (by decide), T.fz7.kp, T.bz7⟩
 | 15, _ => ⟨A.az8, A.dz8, rfl, (okz8 P w base T).mono (by decide), T.fz8.kp, T.bz8⟩
 | 16, _ => ⟨A.az9, A.dz9, rfl, (okz9 P w base T).mono (by decide), T.fz9.kp, T.bz9⟩
 | 17, _ => ⟨A.aya, A.dya, rfl, (okya P w base T).mono (by decide), T.fya.kp, T.bya⟩
 | 18, _ => ⟨A.ayb, A.dyb, rfl, (okyb P w base T).mono (by decide), T.fyb.kp, T.byb⟩
 | 19, _ => ⟨A.ayc, A.dyc, rfl, (okyc P w base T B).mono (by decide), T.fyc.kp, T.byc⟩
 | 20, _ => ⟨A.ayd, A.dyd, rfl, (okyd P w base T).mono (by decide), T.fyd.kp, T.byd⟩
 | j + 21, h => absurd h (by omega)
theorem shape_lt {z : Int} {n k : Nat} (h : PyVbsgae.shape z = some (n, k)) : ∃ j : Nat, j < 21 ∧ z = (j : Int) := by
 by_cases hz : 0 ≤ z ∧ z ≤ 20
 ·exact ⟨z.toNat, by omega, by omega⟩
 ·exfalso
  unfold PyVbsgae.shape at h
  simp only [show ¬ z = 0 by omega, show ¬ z = 1 by omega, show ¬ z = 2 by omega, show ¬ z = 3 by omega, show ¬ z = 4 by omega, show ¬ z = 5 by omega, show ¬ z = 6 by omega, show ¬ z = 7 by omega, show ¬ z = 8 by omega, show ¬ z = 9 by omega, show ¬ z = 10 by omega, show ¬ z = 11 by omega, show ¬ z = 12 by omega, show ¬ z = 13 by omega, show ¬ z = 14 by omega, show ¬ z = 15 by omega, show ¬ z = 16 by omega, show ¬ z = 17 by omega, show ¬ z = 18 by omega, show ¬ z = 19 by omega, show ¬ z = 20 by omega, if_false] at h
  cases h
theorem TabA.nofrz {H : Hp} {x : MA} {t : Table} (h : TabA A H x t) : ∀ y ∈ x.fp, ∀ o u, H y ≠ some (.frz o u) := by
 obtain ⟨kvs, ⟨⟨dm, h1⟩, h2, h3, h4⟩, h5⟩ := h
 intro y hy o u q
 have : y = x.m ∨ y = x.pl ∨ y = x.cl := by simpa [MA.fp] using hy
 rcases this with rfl | rfl | rfl
 ·rw [h1] at q; cases q
 ·rw [h5] at q; cases q
 ·rw [h4] at q; cases q
theorem past_nofrz {H : Hp} : ∀ {l : List MA} {ts : List Table}, Paired (TabA A H) l ts → ∀ x ∈ l, ∀ y ∈ x.fp, ∀ o u, H y ≠ some (.frz o u)
 | _, _, .nil, x, hx => by cases hx
 | _, _, .cons a t, x, hx => by
  rcases List.mem_cons.mp hx with rfl | hx
  ·exact a.nofrz
  ·exact past_nofrz t x hx
theorem GameA.nofrz {H : Hp} {G : GA} {s : State} (h : GameA A H G s) : ∀ y ∈ G.mut A, ∀ o u, H y ≠ some (.frz o u) := by
 intro y hy o u q
 unfold GA.mut at hy
 rcases List.mem_cons.mp hy with rfl | hy
 ·obtain ⟨dg, e⟩ := h.ins
  rw [e] at q; cases q
 rcases List.mem_cons.mp hy with rfl | hy
 ·rw [h.pst] at q; cases q
 rcases List.mem_cons.mp hy with rfl | hy
 ·rcases h.tbl with e | ⟨c, e, _⟩
  ·rw [e] at q; cases q
  ·rw [e] at q; cases q
 obtain ⟨x, hx, hy⟩ := List.mem_flatMap.mp hy
 rcases List.mem_cons.mp hx with rfl | hx
 ·exact h.cur.nofrz y hy o u q
 ·exact past_nofrz h.past x hx y hy o u q
structure PlayW (K : W.Frag) (A : Adr) (g a r an : Addr) (ns : List Int) (m : Nat) (σ : L2.St) (H2 : Hp) : Prop where
 ex : ∃ (G' : GA) (i : Nat) (s : State) (out : List Int) (cs : List (List (List Int))) (f : Nat) (v4 : Option V), σ = [some (.ref g), some (.ref a), some (.ref r), some (.ref an), v4] ∧ G'.g = g ∧ GameA A H2 G' s ∧ SInv s ∧ ReaderA A H2 r a i ∧ CallsA K H2 a ns ∧
  r ∉ G'.mut A ++ G'.fix ∧ an ∉ G'.mut A ++ G'.fix ∧ an ≠ r ∧ H2 an = some (.lst (iVs out)) ∧ PyFlat.calls PyVbsgae.shape f (ns.drop i) = some cs ∧ cs.length = m ∧ m ≤ 200 ∧ (∀ c ∈ cs, VbsgaeNeutral.asked1 c = true) ∧
  PyVbsgae.answers ns = out ++ PyFlat.told (PyFlat.played VbsgaeNeutral.step s cs) ∧ out.length + 3001 * m ≤ 3001 * 200
theorem okye (T : Txt K mg A) (B : BMain mg base) : FnOk P w K mg base CX0 7 A.aye A.dye ["game", "calls"] (spye K A) := by
 have GzI := okzI P w base T
 have GzJ := okzJ P w base T
 have GzK := okzK P w base T
 have GzN := okzN P w base T
 refine T.fye.ok (k := 6) scye (fun vs H Q E h => ?_) (fun cdv Ar outer s H vs Q E hr h => ?_)
 ·obtain ⟨_, _, _, rfl, _⟩ := h; rfl
 obtain ⟨G, a, ns, rfl, hA, hC, hask, k⟩ := h
 refine ⟨_, (pQ (ps_set (i := 2) scye.nd rfl (Or.inl rfl) (pe_make T.mkReader GzI (hr.mono (by decide : 2 ≤ 6)) rfl T.gReader T.bzI .nil pass0 (pA (pv 1) pZ)))
  (pQ (ps_set (i := 3) scye.nd rfl (Or.inl rfl) (pe_lst pZ))
  (pQ (ps_while PassesOwn.never (pt_val (pe_meth0 (pv 2) T.clReader T.mzJ GzJ (hr.mono (by decide : 1 ≤ 6)) T.bzJ .nil pass0)) (pQ (ps_set (i := 4) scye.nd rfl (Or.inl rfl) (pe_ix ix_tup (pe_glob (v := .ref A.axJ) rfl T.gxJ rfl) (pe_meth0 (pv 2) T.clReader T.mzK GzK (hr.mono (by decide : 1 ≤ 6)) T.bzK .nil pass0) (fun _ _ => rfl)))
  (pI (ps_expr (pe_bm PySem.F.plainAttrs_list PySem.F.slot_list_extend PySem.F.type_list_extend mt_extend (pv 3) (pA (pe_call GzN (hr.mono (by decide : 1 ≤ 6)) rfl T.gzN T.fzN.kp T.bzN .nil pass0 (pA (pe_callV (k := 6) (ps := ["game", "reader"]) (i := 4) (hr.mono (by decide : 6 ≤ 6)) rfl (Or.inl rfl) (pA (pv 0) (pA (pv 2) pZ))) pZ)) pZ))))))
  (pI (pY (pv 3)))))), ?_⟩
 obtain ⟨cs, hcs, hcl, hca, hans⟩ := asked_some hask
 refine ⟨_, rfl, ?_⟩
 intro r dr nr ndr _
 refine ⟨r, dr, a, rfl, uS, fun H1 hR1 kp1 => ⟨rfl, ?_⟩⟩
 have e1 : Kp [] H H1 := .made nr ndr kp1
 refine ⟨sz, fun an han => ?_⟩
 have hC1 := hC.keep0 e1
 have hA1 := hA.keep0 e1
 have e2 : Kp [] H1 (upd H1 an (.lst [])) := .new han
 dsimp only [gName]
 refine ⟨PlayW K A G.g a r an ns, ⟨cs.length, ⟨G, 0, Vbsgae.start, [], cs, ns.length, none, rfl, rfl, hA1.keep0 e2, SInv.start, hR1.keep0 e2, hC1.keep0 e2, ?_, ?_, ?_, uS, hcs, rfl, hcl, hca, hans, ?_⟩⟩, fun m σ H2 hW => ?_⟩
 ·intro q
  obtain ⟨o, ho⟩ := hA.ats r q
  rw [nr] at ho
  cases ho
 ·intro q
  obtain ⟨o, ho⟩ := hA1.ats an q
  rw [han] at ho
  cases ho
 ·obtain ⟨d1, q⟩ := hR1
  exact (ne_of_none q han).symm
 ·show 0 + _ ≤ _
  omega
 obtain ⟨G', i, s, out, cs, f, v4, rfl, hGg, hA2, S, hR2, hC2, hrn, hann, har, hout, hcs, hm, hm200, hca, hans, hlen⟩ := hW
 obtain ⟨dr2, hR2'⟩ := hR2
 refine ⟨_, rfl, r, dr2, _, rfl, hR2', rfl, r, a, ns, i, rfl, ⟨dr2, hR2'⟩, hC2, _, rfl, ite2 (fun h => ?_) (fun h => ?_)⟩
 ·have h' : (i : Int) < (ns.length : Int) := dT h
  obtain ⟨z, hz⟩ : ∃ z, ns[i]? = some z := ⟨_, List.getElem?_eq_getElem (by omega)⟩
  rw [drop_snoc hz] at hcs
  obtain ⟨f', c, t, cs', hcall, hcs', rfl⟩ := calls_cons hcs
  obtain ⟨n0, k0, xs0, hshape, _⟩ := call_some hcall
  obtain ⟨j, hj, rfl⟩ := shape_lt hshape
  have hmpos : m = cs'.length + 1 := by rw [← hm]; rfl
  refine ⟨PlayW K A G.g a r an ns cs'.length, fun σ' H' h => ⟨cs'.length, by omega, h⟩, ?_⟩
  refine ⟨_, rfl, r, dr2, _, rfl, hR2', rfl, r, a, ns, i, _, rfl, ⟨dr2, hR2'⟩, hC2, hz, fun H3 hR3 e3 => ?_⟩
  obtain ⟨fa, fd, hfa, hok, hkeep, hbind⟩ := calls_ok P w base T B j hj
  have hrm : r ∉ G'.mut A := fun q => hrn (List.mem_append_left _ q)
  have hrf : r ∉ G'.fix := fun q => hrn (List.mem_append_right _ q)
  have hA3 := hA2.keepR e3 ⟨dr2, hR2'⟩ hrm hrf
  have hC3 := hC2.keepR e3 ⟨dr2, hR2'⟩
  have hout3 : H3 an = some (.lst (iVs out)) := e3.kp _ _ hout (fun q => har (List.mem_singleton.mp q))
  refine ⟨A.axJ, _, _, .ref fa, rfl, rfl, T.txJ _, atI_nat hfa, ?_⟩
  refine ⟨_, rfl, .inl ⟨rfl, _, SqL.of hout3⟩, ?_⟩
  refine ⟨fa, fd, spCall K A j, rfl, hok, hkeep, hbind, _, rfl, _, rfl, ?_⟩
  refine ⟨G', r, a, ns, i + 1, s, c, t, by rw [hGg], hA3, S, hR3, hC3, hrm, hrf, hcall, hca c (.head _), fun H4 G4 i4 p h1 h2 h3 h4 h5 e5 h6 => ?_⟩
  have hsl := nstep_len S c
  refine ⟨p, _, rfl, .inl (SqL.of h5), by rw [List.length_map]; omega, fun H5 q hq nq e6 => ?_⟩
  have hout4 : H4 an = some (.lst (iVs out)) := e5.kp _ _ hout3 (fun q => by
   rcases List.mem_cons.mp q with q | q
   ·exact har q
   ·exact hann (List.mem_append_left _ q))
  have hout5 := e6.at_ hout4
  have nin : ∀ y o, H3 y = some o → y ∉ G'.mut A ++ G'.fix → y ∉ G4.mut A ++ G4.fix := fun y o hy hn z => by
   rcases h6 y z with q | q
   ·exact hn q
   ·rw [hy] at q
    cases q
  obtain ⟨dr3, hR3'⟩ := hR3
  have hann4 := nin an _ hout3 hann
  have hrn4 := nin r _ hR3' hrn
  have hC4 := hC3.keep e5 fun b hb o u q => by
   rcases List.mem_cons.mp hb with rfl | hb
   ·rw [hR3'] at q; cases q
   ·exact hA3.nofrz b hb o u q
  have e7 : Kp [an] H5 (upd H5 an (.lst (iVs out ++ (.int ((iVs (VbsgaeNeutral.step s c).2).length : Nat) :: iVs (VbsgaeNeutral.step s c).2)))) := .put (.head _) hout5 fun _ z => nomatch z
  have na : ∀ y ∈ G4.mut A ++ G4.fix, y ∉ [an] := fun y hy q => hann4 (by rw [← List.mem_singleton.mp q]; exact hy)
  have hA5 := (h2.keep0 e6).keep e7 (fun y hy => na y (List.mem_append_left _ hy)) (fun y hy => na y (List.mem_append_right _ hy)) fun b hb φ q => by
   rw [List.mem_singleton.mp hb, hout5] at q
   cases q
  have hC5 := (hC4.keep0 e6).keep e7 fun b hb o u q => by
   rw [List.mem_singleton.mp hb, hout5] at q
   cases q
  refine ⟨an, q, _, _, rfl, rfl, hout5, hq, sz ?_, ⟨G4, i4, (VbsgaeNeutral.step s c).1, out ++ (((VbsgaeNeutral.step s c).2.length : Int) :: (VbsgaeNeutral.step s c).2), cs', f', _, rfl, h1.trans hGg, hA5, S.nstep c, (h3.keep0 e6).keep e7 (fun z => har (List.mem_singleton.mp z).symm), hC5, hrn4, hann4, har, ?_, by rw [h4]; exact hcs', rfl, by omega, fun c' hc' => hca c' (.tail _ hc'), ?_, ?_⟩⟩
  ·show (iVs out).length + ((iVs (VbsgaeNeutral.step s c).2).length + 1) ≤ _
   rw [List.length_map, List.length_map]
   omega
  ·rw [uS, iV_app, List.length_map]
   rfl
  ·rw [hans]
   show out ++ PyFlat.told ((VbsgaeNeutral.step s c).2 :: PyFlat.played VbsgaeNeutral.step (VbsgaeNeutral.step s c).1 cs') = _
   rw [List.append_assoc]
   rfl
  ·rw [List.length_append, List.length_cons]
   omega
 ·have h' : ¬ (i : Int) < (ns.length : Int) := dF h
  have hd : ns.drop i = [] := List.drop_eq_nil_of_le (by omega)
  rw [hd] at hcs
  have hcn := calls_nil hcs
  rw [hcn] at hans
  have : PyVbsgae.answers ns = out := by
   rw [hans]
   exact List.append_nil _
  rw [this] at k
  exact ⟨_, rfl, k _ an hout⟩
theorem okyf (T : Txt K mg A) (B : BMain mg base) : FnOk P w K mg base CX0 8 A.ayf A.dyf ["calls"] (spyf K A) := by
 have Gye := okye P w base T B
 have Gzp := okzp P w base T
 refine T.fyf.ok (k := 7) scyf (fun vs H Q E h => ?_) (fun cdv Ar outer s H vs Q E hr h => ?_)
 ·obtain ⟨_, _, rfl, _⟩ := h; rfl
 obtain ⟨a, ns, rfl, htb, hC, hask, k⟩ := h
 refine ⟨_, (pI (pY (pe_call Gye (hr.mono (by decide : 7 ≤ 7)) rfl T.gye T.fye.kp T.bye .nil pass0 (pA (pe_make0 T.mkGame Gzp (hr.mono (by decide : 4 ≤ 7)) rfl T.gGame T.bzp .nil pass0) (pA (pv 0) pZ))))), ?_⟩
 intro g dg ng ndg ngd
 have e0 : Kp [] H (upd (upd H dg (.own g)) g (.ins A.cGame dg [])) := (Kp.new ndg).trans (.new (by rw [uN ngd.symm]; exact ng))
 refine ⟨g, dg, rfl, uS, htb.keep0 e0, fun H1 G hG hA kp => ⟨rfl, ?_⟩⟩
 have e1 : Kp [] H H1 := .made ng ndg kp
 exact ⟨_, rfl, G, a, ns, by rw [hG]; rfl, hA, hC.keep0 e1, hask, fun H' p hp => k H' p hp⟩
end
end Pb
namespace L2
open PySem PySem.Spec PyProof.Rows
open PySem.W (WData Codec OpenSpec Well WellAll ReadsW ReadsAllW)
theorem spec_callT {P : Program} {w : World} {K : W.Frag} {mg mb : Str → Option Value} {k : Nat} {fa : Addr} {fd : FuncData} {ps : List Str} {sp : Sp} {s₁ : Shared} {vals : List Value} {ds : List WData} {R : W.WRecords} {cl : Str → Option Addr} {d0 : WData} {T0 cT : Addr}
  (hT : s₁.heap.get? T0 = some (W.tabObj #[])) (hTK : K.lookup T0 = none) (hTC : W.CodeHd s₁.heap cT T0) (hbm : Pb.BMain mg s₁.heap)
  (KX : K.In s₁.heap) (hns : s₁.heap.Ns mainGlobals mg) (hb : s₁.heap.Ns builtinsNs mb) (hbb : ∀ x : Str, x ≠ "__name__" → mb x = bootBuiltins x) (hlim : s₁.heap.NoLimit) (hg : s₁.gens = #[])
  (hwl : WellAll w.params s₁.heap vals ds) (hpl : plWs ds = true) (hwt : ∀ d ∈ ds, d.weight ≤ 1048576) (hr : Room k callerA)
  (F : ∀ base : Heap, K.In base → base.Ns mainGlobals mg → Pb.BMain mg base → FnOk P w K mg base CX0 k fa fd ps sp) (hbind : ∀ (s : Shared) (us : List Value), us.length = ps.length → BindsTo s fd ⟨us, []⟩ (ps.zip us)) (hlen : ds.length = ps.length)
  (hsp : ∀ (H : Hp) (xs : List V), OnlyF H → H T0 = none → DwAll K H xs ds → sp xs (upd H T0 (.tbl #[])) (fun v H' => Dw K H' v d0) fun _ _ _ => False) :
  codeAny (model P w) callerA (.call (.ref fa) ⟨vals, []⟩) (fun r s' => ∃ u as, r = .ok (.ret u) ∧ ReadsW R cl s'.heap u d0 as ∧ OldK s₁.heap s'.heap ∧ s'.os = s₁.os ∧ AllBare s'.gens) s₁ := by
 obtain ⟨A, ho, ar⟩ := area_all ds vals hwl hpl hwt
 have hO : OnlyF (argH K s₁.heap A) := argH_only ar
 have hok : HOk P w (argH K s₁.heap A) s₁.heap := argH_ok ar
 have hS := dw_all KX ar ds vals hwl hpl ho
 have hV := vals_toV ho
 have hK : ∀ b u, argH K s₁.heap A b = some u → K.lookup b = none := fun b u q => (argH_is ar q).1
 have seqs : ∀ {b : Addr} {o : Obj}, s₁.heap.get? b = some o → (∀ vs n, o.data ≠ .seq vs n) → argH K s₁.heap A b = none := fun {b o} e d => by
  cases q : argH K s₁.heap A b with
  | none => rfl
  | some u =>
   obtain ⟨_, vs, _, _, ⟨e2, _⟩ | ⟨e2, _⟩⟩ := argH_is ar q
   ·rw [e2] at e
    cases e
    exact absurd rfl (d _ _)
   ·rw [e2] at e
    cases e
    exact absurd rfl (d _ _)
 generalize argH K s₁.heap A = H0 at hO hok hS hK seqs
 have hT0 : H0 T0 = none := seqs hT fun _ _ z => nomatch z
 have hokT : HOk P w (upd H0 T0 (.tbl #[])) s₁.heap := fun b o e => by
  by_cases hb : b = T0
  ·subst hb
   rw [uS] at e
   cases e
   exact hT
  ·rw [uN hb] at e
   exact (hok b o e).stay (fun c v _ q => q) (fun c q => (uN (ne_of_none q hT0)).trans q) fun c xs q => (uN (ne_of_none q hT0)).trans q
 have hsp' := hsp H0 (vals.map toV) hO hT0 hS
 have base_of : ∀ {b : Addr} {o : Obj}, s₁.heap.get? b = some o → upd H0 T0 (.tbl #[]) b = none → (hidT s₁.heap (upd H0 T0 (.tbl #[]))).get? b = some o := fun e n => hidT_get e n
 have noH : ∀ {b : Addr} {o : Obj}, s₁.heap.get? b = some o → (∀ vs n, o.data ≠ .seq vs n) → (∀ vs, o.data ≠ .fields vs) → upd H0 T0 (.tbl #[]) b = none := fun {b o} e d1 d2 => by
  have hb : b ≠ T0 := fun q => by
   rw [q, hT] at e
   cases e
   exact d2 _ rfl
  rw [uN hb]
  exact seqs e d1
 have nsK : ∀ {b : Addr} {m : Str → Option Value}, s₁.heap.Ns b m → (hidT s₁.heap (upd H0 T0 (.tbl #[]))).Ns b m := fun {b m} ⟨o, es, ep, e, d, r⟩ => ⟨o, es, ep, base_of e (noH e (fun _ _ z => by rw [d] at z; cases z) fun _ z => by rw [d] at z; cases z), d, r⟩
 have nK : ∀ b o, K.lookup b = some o → upd H0 T0 (.tbl #[]) b = none := fun b o e => by
  have hb : b ≠ T0 := fun q => by
   rw [q, hTK] at e
   cases e
  rw [uN hb]
  cases q : H0 b with
  | none => rfl
  | some u =>
   rw [hK b u q] at e
   cases e
 have hKb : K.In (hidT s₁.heap (upd H0 T0 (.tbl #[]))) := fun b o e => base_of (KX b o e) (nK b o e)
 have hBb : Pb.BMain mg (hidT s₁.heap (upd H0 T0 (.tbl #[]))) := by
  obtain ⟨bm, ob, b1, b2, b3, b4, b5, b6⟩ := hbm
  exact ⟨bm, ob, b1, b2, base_of b3 (noH b3 (fun _ _ z => by rw [b6] at z; cases z) fun _ z => by rw [b6] at z; cases z), b4, b5, b6⟩
 have hM : Mod K mg (hidT s₁.heap (upd H0 T0 (.tbl #[]))) := ⟨hKb, nsK hns, ⟨mb, nsK hb, hbb⟩, let ⟨mc, h1, h2⟩ := hlim; ⟨mc, nsK h1, h2⟩⟩
 have e0 : Env0 P w K mg (hidT s₁.heap (upd H0 T0 (.tbl #[]))) callerA [] s₁ (upd H0 T0 (.tbl #[])) := ⟨rfl, hM, fun b o e => of_hidT e, Nat.le_of_eq (hidT_size _ _), trivial, fun b hb => absurd (show b ∈ ([] : List Addr) from hb) (by simp), hokT, .of_eq hg⟩
 have hl : vals.length = ps.length := by rw [wellAll_len hwl]; exact hlen
 refine codeAny_mono ((F _ hKb (nsK hns) hBb).run callerA [] s₁ _ ⟨vals, []⟩ vals (vals.map toV) _ _ hr e0 (hbind s₁ vals hl) hV hsp') fun r s' x => ?_
 cases r with
 | error e => exact False.elim x
 | ok fl =>
  cases fl with
  | next => exact False.elim x
  | brk => exact False.elim x
  | cont => exact False.elim x
  | ret u =>
   obtain ⟨v, H', os, bare, un, hok', r', q⟩ := x
   have kept : ∀ b o, b ≠ T0 → s₁.heap.get? b = some o → s'.heap.get? b = some o := fun b o hb e => by
    cases q2 : H0 b with
    | none => exact un.keep b o e (by rw [uN hb]; exact q2) (by intro z; exact absurd (show b ∈ ([] : List Addr) from z) (by simp)) (by simp)
    | some u2 =>
     rcases hO b with z | ⟨ob, u3, z⟩
     ·rw [q2] at z
      cases z
     ·have z2 := un.frzs b ob _ ((uN hb).trans z)
      obtain ⟨e1, _⟩ := hok b _ z
      obtain ⟨e2, _⟩ := hok' b _ z2
      rw [e] at e1
      cases e1
      exact e2
   obtain ⟨more, hmore⟩ := un.tbls T0 #[] uS
   have hT' : s'.heap.get? T0 = some { cls := .none, data := .fields (#[] ++ more) } := hok' T0 _ hmore
   have old : OldK s₁.heap s'.heap := ⟨fun b o e => by
    by_cases hb : b = T0
    ·subst hb
     rw [hT] at e
     cases e
     exact .inr (.inl ⟨(hTC.tab hT).isCodeTable, rfl, #[], more, rfl, hT'⟩)
    ·exact .inl (kept b o hb e), fun b o e => by
    by_cases hb : b = T0
    ·exact ⟨_, by rw [hb]; exact hT'⟩
    ·exact ⟨o, kept b o hb e⟩⟩
   have KX' : K.In s'.heap := fun b o e => kept b o (fun z => by rw [z, hTK] at e; cases e) (KX b o e)
   obtain ⟨as, hrd⟩ := Dw.reads (R := R) (cl := cl) hok' KX' d0 v u q r'
   exact ⟨u, as, rfl, hrd, old, os, bare⟩
theorem walk_specT {r : OpenSpec} {k : Nat} {q : Program} {loose : List Str} {XP : (Str → Option Value) → Heap → Prop} {YP : World → Heap → Prop} {d : DefRec} {K : Params → W.Frag} {ps : List Str} {T0 cT : Addr} {sp : W.Frag → Sp}
  (hwell : r.wellSaid = true) (hdf : d.params.defaults = []) (hlen : r.args.length = ps.length) (hr : Room k callerA)
  (hY : ∀ (w : World) (h : Heap), YP w h → (K w.params).In h ∧ h.get? T0 = some (W.tabObj #[]))
  (hTK : ∀ w : World, (K w.params).lookup T0 = none) (hTC : ∀ w : World, W.codeHdIn (K w.params) cT T0 = true)
  (F : ∀ (w : World) (mg : Str → Option Value) (fa : Addr) (h : Heap), YP w h → (K w.params).In h → h.Ns mainGlobals mg → mg d.name = some (.ref fa) →
   ∃ fd : FuncData, (∀ (s : Shared) (us : List Value), us.length = ps.length → BindsTo s fd ⟨us, []⟩ (ps.zip us)) ∧
    ∀ base : Heap, (K w.params).In base → base.Ns mainGlobals mg → Pb.BMain mg base → FnOk r.prog w (K w.params) mg base CX0 k fa fd ps (sp (K w.params)))
  (hsp : ∀ (K : W.Frag) (H : Hp) (xs : List V) (a : Codec.denoteAll r.args), OnlyF H → H T0 = none → Codec.withinAll r.args a = true → Codec.app r.args r.asked a = true → DwAll K H xs (Codec.encAll r.args a) →
   sp K xs (upd H T0 (.tbl #[])) (fun v H' => Dw K H' v (r.ret.enc (Codec.app r.args r.f a))) fun _ _ _ => False) :
  W.WalkOS q loose XP YP r d [] (fun f vs => PySem.call f vs) := by
 intro w s_0 s₁ mg mb G Y fa o pm cd doc dV kV ho hd hcd hD hmg hg args vals as hpre hlay hrd hwl hlo
 obtain ⟨a, e1, e2⟩ := W.os_pre_some hpre
 obtain ⟨e3, hwi⟩ := Codec.encAll_of_decAll r.args args a e1
 subst e3
 obtain ⟨KX, hT⟩ := hY w _ Y
 obtain ⟨fd, hb, hF⟩ := F w mg fa _ Y KX G.T.g hmg
 refine W.enter_call (codeAny_mono (spec_callT (R := []) (cl := classAt s_0.heap) (d0 := r.ret.enc (Codec.app r.args r.f a)) hT (hTK w) (W.codeHd_of_K KX (hTC w)) G.T.bmain KX G.T.g G.T.b G.T.builtins G.T.nolimit hg hwl (pl_encAll _ _) (layable_weight hlay) hr hF hb (by rw [encAll_len]; exact hlen)
  (fun H xs hO hn hS => hsp (K w.params) H xs a hO hn hwi e2 hS)) fun r' s' hq => ?_)
 obtain ⟨u, as', rfl, h1, h2, h3, h4⟩ := hq
 exact ⟨.inl ⟨u, _, as', rfl, fun _ => rfl, h1, (OpenSpec.post_iff hwell hwi _ _).mpr rfl, fun z => Bool.noConfusion (show false = true from z)⟩, h2, h3, h4⟩
end L2
namespace Pb
open PySem PySem.Spec PyProof.Rows L2 Vb
def spA (T0 : Addr) (K : W.Frag) : Sp := fun vs H Q _ => ∃ (a : Addr) (ns : List Int), vs = [.ref a] ∧ H T0 = some (.tbl #[]) ∧ CallsA K H a ns ∧ PyVbsgae.answers_asked ns = true ∧
 ∀ (H' : Hp) (p : Addr), H' p = some (.lst (iVs (PyVbsgae.answers ns))) → Q (.ref p) H'
theorem all_mk {P : Program} {w : World} {K : W.Frag} {mg : Str → Option Value} {A : Adr} {fa : Addr} (T : Txt K mg A) (hfa : mg "answers" = some (.ref fa)) {T0 : Addr} (hT : A.pT = T0) :
  ∃ fd : FuncData, (∀ (s : Shared) (us : List Value), us.length = (["calls"] : List Str).length → BindsTo s fd ⟨us, []⟩ ((["calls"] : List Str).zip us)) ∧ ∀ base : Heap, K.In base → base.Ns mainGlobals mg → BMain mg base → FnOk P w K mg base CX0 8 fa fd ["calls"] (spA T0 K) := by
 have e := hfa.symm.trans T.gyf
 cases e
 obtain ⟨oc, od, kV, doc, pm, an, cdv, ct, osl, hfd, lk, hcd⟩ := T.fyf.ex
 refine ⟨A.dyf, fun s us hu => ?_, fun base _ _ B => (okyf P w base T B).imp fun vs H Q E h => ?_⟩
 ·rw [hfd]
  match us, hu with
  | [_], _ => exact .of_eq rfl
 ·obtain ⟨a, ns, h1, h2, h3, h4, h5⟩ := h
  exact ⟨a, ns, h1, .inl (by rw [hT]; exact h2), h3, h4, h5⟩
theorem fin_mk {P : Program} {w : World} {K : W.Frag} {mg : Str → Option Value} {fa x T0 : Addr} (h : ∃ A : Adr, A.pT = T0 ∧ A.ayf = x ∧ Txt K mg A) (hfa : mg "answers" = some (.ref fa)) :
  ∃ fd : FuncData, (∀ (s : Shared) (us : List Value), us.length = (["calls"] : List Str).length → BindsTo s fd ⟨us, []⟩ ((["calls"] : List Str).zip us)) ∧ ∀ base : Heap, K.In base → base.Ns mainGlobals mg → BMain mg base → FnOk P w K mg base CX0 8 fa fd ["calls"] (spA T0 K) :=
 let ⟨_, h1, _, T⟩ := h; all_mk T hfa h1
theorem calls_of {K : W.Frag} {H : Hp} {a T0 : Addr} {ns : List Int} (hO : OnlyF H) (hn : H T0 = none) (h : SqL K H a (iVs ns)) : CallsA K (upd H T0 (.tbl #[])) a ns := by
 rcases h with (h | ⟨o, h⟩) | h
 ·rcases hO a with z | ⟨o, u, z⟩
  ·rw [h] at z; cases z
  ·rw [h] at z; cases z
 ·exact .inl ⟨o, (uN (ne_of_none h hn)).trans h⟩
 ·exact .inr fun H' => .inr h
end Pb
set_option Elab.async false
open PySem PySem.W PyProof.Rows
set_option maxRecDepth 100000 in
set_option maxHeartbeats 0 in
theorem PySem.Challenge.cw_priceboard_s01_answers_holds : PySem.Challenge.rw_priceboard_s01_answers.Holds := by
 w_on; refine holds_os (XP := XL Pt.qv []) (YP := Hook.says Pt.H) Pt.hl (Hook.of Pt.H) (Hook.keeps Pt.H) (fun s e => xl_of s (Bool.and_eq_true_iff.mp e).1) XL.keeps (by rfl) (by rfl) (by rfl) (fun s e => recFacts_of (Bool.and_eq_true_iff.mp e).2) os_shapes (by first | assumption | decide +kernel) (by decide +kernel) ⟨rfl, rfl, rfl, rfl, rfl, by decide +kernel⟩ ?_ ?_
 ·exact ⟨[.list [.int 13]], by decide +kernel, by decide +kernel⟩
 k_fillS
 refine L2.walk_specT (r := PySem.Challenge.rw_priceboard_s01_answers) (k := 8) (ps := ["calls"]) (T0 := 133) (cT := 137) (sp := Pb.spA 133) (by decide +kernel) rfl rfl ⟨rfl, by decide, by decide⟩ (fun w h Y => ⟨And.left Y, And.right Y 133 (by simp)⟩) ?TK ?TC ?F ?S
 case TK =>
  intro w
  kernel_rfl
 case TC =>
  intro w
  kernel_rfl
 case F =>
  intro w mg fa h Y KX G hmg
  refine' Pb.fin_mk (Pb.txt_mk (pT := 133) (cOrd := 137) KX G ?_ ?_ ?_ ?_ ?_ ?_ ?_ ?_ ?_ ?_ ?_ ?_ ?_ ?_ ?_ ?_ ?_ ?_ ?_ ?_ ?_ ?_ ?_ ?_ ?_ ?_ ?_ ?_ ?_ ?_ ?_ ?_ ?_ ?_ ?_ ?_ ?_ ?_ ?_ ?_ ?_ ?_ ?_ ?_ ?_ ?_ ?_ ?_ ?_ ?_ ?_ ?_ ?_ ?_ ?_ ?_ ?_ ?_ ?_ ?_ ?_ ?_ ?_ ?_ ?_ ?_ ?_ ?_ ?_ ?_ ?_ ?_ ?_ ?_ ?_ ?_ ?_ ?_ ?_ ?_ ?_ ?_ ?_ ?_ ?_ ?_ ?_ ?_ ?_ ?_ ?_ ?_ ?_ ?_ ?_ ?_ ?_ ?_ ?_ ?_ ?_ ?_ ?_ ?_ ?_ ?_ ?_ ?_ ?_ ?_ ?_ ?_ ?_ ?_ ?_ ?_ ?_ ?_ ?_ ?_ ?_ ?_ ?_ ?_ ?_ ?_ ?_ ?_ ?_ ?_ ?_ ?_ ?_ ?_ ?_ ?_ ?_ ?_ ?_ ?_ ?_ ?_ ?_ ?_ ?_ ?_ ?_ ?_ ?_ ?_ ?_ ?_ ?_ ?_ ?_ ?_ ?_ ?_ ?_ ?_ ?_ ?_ ?_ ?_ ?_ ?_ ?_ ?_ ?_ ?_ ?_ ?_ ?_ ?_ ?_ ?_ ?_ ?_ ?_ ?_ ?_ ?_ ?_ ?_ ?_ ?_ ?_ ?_ ?_ ?_ ?_ ?_ ?_ ?_ ?_ ?_ ?_ ?_ ?_ ?_ ?_ ?_ ?_ ?_ ?_ ?_ ?_ ?_ ?_ ?_ ?_ ?_ ?_ ?_ ?_ ?_ ?_ ?_ ?_ ?_ ?_ ?_ ?_ ?_ ?_ ?_ ?_ ?_ ?_ ?_ ?_ ?_ ?_ ?_ ?_ ?_ ?_ ?_ ?_ ?_ ?_ ?_ ?_ ?_ ?_ ?_ ?_ ?_ ?_ ?_ ?_ ?_ ?_ ?_ ?_ ?_ ?_ ?_ ?_ ?_ ?_ ?_ ?_ ?_ ?_ ?_ ?_ ?_ ?_ ?_ ?_ ?_ ?_ ?_ ?_ ?_ ?_ ?_ ?_ ?_ ?_ ?_ ?_ ?_ ?_ ?_ ?_ ?_ ?_ ?_ ?_ ?_ ?_ ?_ ?_ ?_ ?_ ?_ ?_ ?_ ?_ ?_ ?_ ?_ ?_ ?_ ?_ ?_ ?_ ?_ ?_ ?_ ?_ ?_ ?_ ?_ ?_ ?_ ?_ ?_ ?_ ?_ ?_ ?_ ?_ ?_ ?_ ?_ ?_ ?_ ?_ ?_ ?_ ?_ ?_ ?_ ?_ ?_ ?_ ?_ ?_ ?_ ?_ ?_ ?_ ?_ ?_ ?_ ?_ ?_ ?_ ?_ ?_ ?_ ?_ ?_ ?_ ?_ ?_ ?_ ?_ ?_ ?_ ?_ ?_ ?_ ?_ ?_ ?_ ?_ ?_ ?_ ?_ ?_ ?_ ?_ ?_ ?_ ?_ ?_ ?_ ?_ ?_ ?_ ?_ ?_ ?_ ?_ ?_ ?_ ?_ ?_ ?_ ?cdO ?cdHd) hmg
  case cdHd => kernel_rfl
  all_goals first | k_is | exact rfl | skip
 case S =>
  intro K H xs a hO hn hwi hask hx
  cases hx with
  | cons h1 h2 =>
   cases h2
   cases h1 with
   | lst hs ha =>
    have e := L2.ints_dw a.1 _ ha
    subst e
    exact ⟨_, a.1, rfl, L2.uS, Pb.calls_of hO hn hs, hask, fun H' p hp => .lst (L2.SqL.of hp) (L2.dw_ints _)⟩
