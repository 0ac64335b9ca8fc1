import PyProof.Rows.All
import Wide.All
import OpenK.AllK
import Wide.FinOn
import HandS.ForMost
import HandS.Evl
import HandS.Codes
import HandS.EndBits
import HandS.IsInst
import HandS.Wide
import HandS.Exc
import HandS.Star
import KE.GoesEnum
import HandS.Walk
import HandS.Rev
import HandS.Style
import HandS.RaiseMore
import PyProof.ReprRoads
import PyProof.ReprLen
import HandS.ExcOwn
import HandS.WordsExc
import HandS.TryOnly
import HandS.AnyAll
import HandS.EndTab
import HandS.Dict
import PyProof.GenCompD
import HandS.Small
import HandS.Iter
import HandS.Strs
import HandS.Conv
import HandS.ReCall
import HandS.ExcIs
import HandS.Zip
import PyProof.ZipIter
import HandS.ExcInit
import HandS.ExcField
import HandS.FStr
import OpenK.KCls
import HandS.Defaults
import HandS.TupSets
import HandS.SetBool
import HandS.TupAny
import PySem.Challenge.RW_matedsquares_k27_parts_and_mates
set_option Elab.async false
set_option linter.all false
set_option maxRecDepth 100000
namespace My
open PySem PySem.Spec PyProof.Rows L2 Evl
/-! ### defs of the text, their promises -/
structure Df (K : PySem.W.Frag) (mg : Str → Option Value) (x : Str) (st : Stmt) (ps : List Str) : Prop where
  ex : ∃ f fd, Fun K x x st f fd ∧ mg x = some (.ref f) ∧ Binds K fd ps []
structure Cd (P : Program) (w : World) (K : PySem.W.Frag) (mg : Str → Option Value) (base : Heap) (k : Nat) (x : Str) (sp : Sp) : Prop where
  ex : ∃ (f : Addr) (fd : FuncData) (ps : List Str), FnOk P w K mg base L2.CX0 k f fd ps sp ∧ mg x = some (.ref f) ∧ PySem.W.keepIn K (.ref f) = true ∧ Binds K fd ps []
section
variable {P : Program} {w : World} {K : PySem.W.Frag} {mg : Str → Option Value} {base : Heap}
theorem Df.ok {x : Str} {st : Stmt} {N ps : List Str} {k : Nat} {sp : Sp} (D : Df K mg x st ps) (S : FnScope N ps (defScope st)) (len : ∀ vs H Q E, sp vs H Q E → vs.length = ps.length)
    (hbody : ∀ (f : Addr) (cdv : Value) (A : Around) (outer : List Env) (s : Shared) (H : Hp) (vs : List V) (Q : VK) (E : XK), Room k (A.deeper (envOfC x (defScope st) s.heap.objs.size f cdv)) → sp vs H Q E →
      ∃ t, PSs (cxOf L2.CX0 P w K mg base N x (defScope st) f cdv A outer s H E).nox (defBody st) t ∧ t { nx := fun _ H' => Q .non H', rt := Q } (start N vs) H) : Cd P w K mg base (k + 1) x sp := by
  obtain ⟨f, fd, F, m, b⟩ := D.ex
  exact ⟨f, fd, ps, F.ok S len (hbody f), m, F.kp, b⟩
theorem Cd.imp {x : Str} {k : Nat} {sp sp' : Sp} (c : Cd P w K mg base k x sp) (h : ∀ vs H Q E, sp' vs H Q E → sp vs H Q E) : Cd P w K mg base k x sp' := by
  obtain ⟨f, fd, ps, F, m, kp, b⟩ := c.ex
  exact ⟨f, fd, ps, F.imp h, m, kp, b⟩
end
section
variable {X : Cx} {p pos : Pos} {e : Expr} {es : List Expr} {x : Str} {k j : Nat} {sp : Sp} {t : TA}
theorem pe_cd (c : Cd X.prog X.w X.K X.mg X.base k x sp) (hr : Room j X.A) (hk : k ≤ j) (hg : Gl X x) (ha : PA X (e :: es) t)
    (hdb : (x == ("__debug__" : Str)) = false := by decide) (he : starEach (e :: es) X.env = (false, eval e X.env) :: starEach es X.env := by rfl) (hpl : (backTo pos (starEach es X.env)).any (·.1) = false := by rfl) :
    PE X (.Call (.Name x p) (e :: es) [] pos) (tCall sp [] L2.E0 t) := by
  obtain ⟨f, fd, ps, F, hm, kp, b⟩ := c.ex
  exact pe_call F (hr.mono hk) hg hm kp b .nil pass0 ha hdb he hpl
end
end My
namespace F9
open PySem
set_option maxHeartbeats 1000000 in
theorem meets_enumerate_newT (l : Addr) (items : Array Value) (n : Nat) (dct : Option Addr) (sl : Array (Option Value)) :
    Meets (Builtin.«enumerate.__new__» ⟨[.type "enumerate", .ref l], []⟩) (fun _ R s => s.heap.get? l = some { cls := .type "tuple", dict := dct, data := .seq items n, slots := sl } ∧
      R (.ok (.ret (.ref (s.heap.push { cls := .type "tuple_iterator", data := .fields #[.ref l, .int 0 0] }).objs.size)))
        { s with heap := (s.heap.push { cls := .type "tuple_iterator", data := .fields #[.ref l, .int 0 0] }).push { cls := .type "enumerate", data := .fields #[.none, .bool false, .ref s.heap.objs.size, rawInt 0, .none, .none] } }) :=
  .of_wp fun prog w A R s h => by
    obtain ⟨hp, g, d, tk, os⟩ := s; obtain ⟨hl, h⟩ := h
    have hsub := sub_enumerate
    have hL : Heap.IsTuple (Shared.heap ⟨hp, g, d, tk, os⟩) l items := ⟨_, hl, rfl, n, rfl⟩
    wp_walk using wpAny_pyIter_tuple hL
    refine wpAny_stack_any fun st => wpAny_pure ?_
    split
    · rename_i c _ _ _ _ _
      cases (c == Value.type "enumerate")
      · wp_walk using wpAny_pyIter_tuple hL
        exact ⟨_, rfl, h⟩
      · wp_walk using wpAny_pyIter_tuple hL
        exact ⟨_, rfl, h⟩
    · wp_walk using wpAny_pyIter_tuple hL
      exact ⟨_, rfl, h⟩
section
variable {prog : Program} {w : World} {A : Around} {E : Value → Shared → Prop} {s : Shared}
theorem call_enumerate_tuple {l : Addr} {items : Array Value} {Q : Value → Shared → Prop} (hL : s.heap.IsTuple l items)
    (h : ∀ h', IsEnum h' (s.heap.objs.size + 1) s.heap.objs.size 0 .none → h'.IsTupleIter s.heap.objs.size l 0 → h'.objs.size = s.heap.objs.size + 2 →
      (∀ b o, s.heap.get? b = some o → h'.get? b = some o) → Q (.ref (s.heap.objs.size + 1)) { s with heap := h' }) :
    wpAny (model prog w) A (call (.type "enumerate") [.ref l]) Q E s := by
  obtain ⟨⟨c, dct, dt, sl⟩, hl, hc, n, hd⟩ := hL
  replace hc : c = .type "tuple" := hc
  replace hd : dt = .seq items n := hd
  subst hc hd
  refine callType_new F.called_enumerate (by decide) (F.typeCall_enumerate_1 _) (F.newCall_enumerate_1 _) (fun obj => F.args_object_init_2 obj _) F.entry_enumerate_new
    (meets_enumerate_newT l items n dct sl) ⟨hl, ?_⟩
  have hz : (s.heap.push { cls := .type "tuple_iterator", data := .fields #[.ref l, .int 0 0] }).objs.size = s.heap.objs.size + 1 := Heap.size_push ..
  show _ ∧ _
  rw [hz]
  have he : IsEnum ((s.heap.push { cls := .type "tuple_iterator", data := .fields #[.ref l, .int 0 0] }).push
      { cls := .type "enumerate", data := .fields #[.none, .bool false, .ref s.heap.objs.size, rawInt 0, .none, .none] }) (s.heap.objs.size + 1) s.heap.objs.size 0 .none := by
    have := Heap.get?_push_size (s.heap.push { cls := .type "tuple_iterator", data := .fields #[.ref l, .int 0 0] })
      (o := { cls := .type "enumerate", data := .fields #[.none, .bool false, .ref s.heap.objs.size, rawInt 0, .none, .none] }) rfl
    rw [hz] at this; exact this
  refine ⟨⟨_, he, rfl⟩, h _ he ⟨_, Heap.get?_push_of_some _ (Heap.get?_push_size _ rfl), rfl, rfl⟩ (by rw [Heap.size_push, hz]) fun b o x => Heap.get?_push_of_some _ (Heap.get?_push_of_some _ x)⟩
end
end F9
namespace My
open PySem PySem.Spec PyProof.Rows L2 Evl
def IteT (K : PySem.W.Frag) (a : Addr) : It :=
  ⟨fun i H => ∃ (xs : List V) (x : V), SqT K H a xs ∧ xs[i]? = some x, fun i H v H' => ∃ T x, v = .ref T ∧ H T = none ∧ H' = upd H T (.tup [.int (i : Nat), x]) ∧ ∀ xs, SqT K H a xs → xs[i]? = some x, fun i H => ∃ xs : List V, SqT K H a xs ∧ xs.length = i⟩
theorem turn_enumT {P : Program} {w : World} {K : PySem.W.Frag} {elts : List Expr} {kk : Nat} {tpos : Pos} (a e it : Addr) (hai : a ≠ it) :
    Turn P w K (.Tuple elts kk tpos) (IteT K a) [e, it] e (fun i h => (∃ old, IsEnum h e it ((i : Nat) : Int) old) ∧ h.IsTupleIter it a i ∧ e ≠ it ∧ e ≠ a) where
  mem := by simp
  obj := fun i h st b hb => by
    obtain ⟨⟨old, he⟩, ⟨o, ho, hc, hd⟩, _⟩ := st
    have e' : b = e ∨ b = it := by simpa using hb
    rcases e' with z | z
    · rw [z]; exact ⟨_, he, fun v q => nomatch q⟩
    · rw [z]; exact ⟨o, ho, fun v q => by rw [hd] at q; cases q⟩
  keep := fun i h h' st k => let ⟨⟨old, he⟩, hi, hne⟩ := st; ⟨⟨old, k e (by simp) _ he⟩, hi.at fun o q => k it (by simp) o q, hne⟩
  item := by
    intro X hP hw hK hc i pins s σ H E I hf st hg
    subst hP hw hK
    obtain ⟨⟨old, he⟩, hit, hne, hea⟩ := st
    obtain ⟨xs, x, hq, hx⟩ := hg
    obtain ⟨its, rv, p, hz⟩ := I.tuple hq
    obtain ⟨u, hu, ru⟩ := rv.get hx
    have hel : e < s.heap.objs.size := Heap.lt_size he
    have hil : it < s.heap.objs.size := by obtain ⟨_, q, _⟩ := hit; exact Heap.lt_size q
    have hil2 : i < its.toArray.size := by
      have := (List.getElem?_eq_some_iff.mp hu).1
      simpa using this
    refine wpAny_pyNext_enum_itemD (Draws.tuple (by exact I.ok.hd hc) it a hai its.toArray) he ⟨hit, p⟩ hil2 hne (by simp [hne, hea]) fun x' h' tk hx' ho hst' hT hsz hk => ?_
    obtain rfl : x' = u := by
      have e1 : its.toArray[i]? = some u := by simpa using hu
      exact Option.some.inj (hx'.symm.trans e1)
    refine ⟨_, rfl, wpAny_letOwnedTupleGo_enum (s := { s with heap := h', toks := tk + 1 }) ho fun h'' he' sb => ?_⟩
    have hT2 : h''.get? s.heap.objs.size = some { cls := .type "tuple", data := .seq #[.int i tk, x'] } := (sb.2 _ (Nat.ne_of_gt hel)).trans hT
    have new : ObjOk X.prog X.w (upd H s.heap.objs.size (.tup [.int (i : Nat), x])) h'' s.heap.objs.size (.tup [.int (i : Nat), x]) :=
      ⟨by show 2 ≤ sizeLine; decide, [.int i tk, x'], .cons ⟨_, rfl⟩ (.cons ru .nil), ⟨_, hT2, rfl, _, rfl⟩⟩
    have I1 : Inv X pins σ (upd H s.heap.objs.size (.tup [.int (i : Nat), x])) { s with heap := h'', toks := tk + 1 } :=
      I.turnedNew (ch := [e, it]) (fun b ob hb q => (sb.2 b (fun z => hb (by simp [z]))).trans (hk b ob (fun z => hb (by simp [z])) (fun z => hb (by simp [z])) q)) hf (Nat.le_refl _) new
    refine ⟨.ref s.heap.objs.size, _, I1, rfl, ⟨_, x, rfl, I.hok.fresh (Nat.le_refl _), rfl, fun ys hy => by rw [I.tuple_inj hy hq]; exact hx⟩, ⟨⟨x', ?_⟩, hst'.1.at fun o q => (sb.2 it (Ne.symm hne)).trans q, hne, hea⟩, fun b hb => ?_⟩
    · have e1 : ((i + 1 : Nat) : Int) = (i : Int) + 1 := by omega
      rw [e1]; exact he'
    · have hb' : b < s.heap.objs.size := by
        have e' : b = e ∨ b = it := by simpa using hb
        rcases e' with z | z
        · rw [z]; exact hel
        · rw [z]; exact hil
      rw [upd_ne (Nat.ne_of_lt hb')]
      exact (hf b hb).1
  done := by
    intro X hP hw hK hc i pins s σ H E I hf st hg
    subst hP hw hK
    obtain ⟨⟨old, he⟩, hit, hne, hea⟩ := st
    obtain ⟨xs, hq, hx⟩ := hg
    obtain ⟨its, rv, p, hz⟩ := I.tuple hq
    obtain ⟨f0, f1, f2, f3, f4, f5⟩ := hf it (by simp)
    have hl := rv.length
    have hs : its.toArray.size = i := by simp; omega
    have hit2 : s.heap.IsTupleIter it a its.toArray.size := by rw [hs]; exact hit
    exact wpAny_pyNext_enum_endD (Draws.tuple (by exact I.ok.hd hc) it a hai its.toArray) he ⟨hit2, p⟩ fun h' eb => ⟨rfl, I.turned (t' := s.toks) (fun b o hb q => eb b o hb q) f0 f1 f3 f4 f5⟩
  self := fun A i s Q E st h => let ⟨⟨_, he⟩, _⟩ := st; wpAny_pyIter_enum he h
def iEnumT (K : PySem.W.Frag) (ta : TA) : TI := fun σ H R => ta σ H fun vs H1 => ∃ a xs, vs = [.ref a] ∧ SqT K H1 a xs ∧ R (IteT K a) H1
theorem pi_enumT {X : Cx} {e : Expr} {ta : TA} {p pos tpos : Pos} {elts : List Expr} {kk : Nat} (hg : Gl X "enumerate") (hm : X.mg "enumerate" = none) (ha : PA X [e] ta) (hs : starEach [e] X.env = [(false, eval e X.env)] := by rfl) :
    PI X (.Tuple elts kk tpos) (.Call (.Name "enumerate" p) [e] [] pos) (iEnumT X.K ta) := by
  refine ⟨fun pins s σ H R I h => ?_⟩
  refine Call_ (ld_blt I hg hm boot_enumerate (PyProof.Rows.callWith_type1 (thn (ha.run pos pins s σ H _ I h) fun us s1 ⟨vs, H1, I1, r1, q1⟩ => ?_) hs rfl))
  obtain ⟨a, xs, ex, hq, q⟩ := q1
  subst ex
  cases r1 with
  | cons r rr =>
    cases rr
    cases r
    obtain ⟨its, rv, p', hz⟩ := I1.tuple hq
    have hal : a < s1.heap.objs.size := by obtain ⟨_, q, _⟩ := id p'; exact Heap.lt_size q
    refine F9.call_enumerate_tuple p' fun h' he hit hsz hk => wpAny_pyIter_enum he ?_
    have I2 : Inv X pins σ H1 { s1 with heap := h' } := I1.kept (t' := s1.toks) hk
    refine ⟨s1.heap.objs.size + 1, [s1.heap.objs.size + 1, s1.heap.objs.size], _, _, H1, rfl, I2, turn_enumT a (s1.heap.objs.size + 1) s1.heap.objs.size (Nat.ne_of_lt hal), ⟨⟨.none, he⟩, hit, Nat.succ_ne_self _, Nat.ne_of_gt (Nat.lt_succ_of_lt hal)⟩, fun b hb => ?_, q⟩
    have e' : b = s1.heap.objs.size + 1 ∨ b = s1.heap.objs.size := by simpa using hb
    have hle : s1.heap.objs.size ≤ b := by
      rcases e' with z | z
      · rw [z]; exact Nat.le_add_right _ _
      · rw [z]; exact Nat.le_refl _
    exact I1.fpOk hle (I1.hok.fresh hle)
theorem walk_enumT {K : PySem.W.Frag} {a : Addr} {xs : List V} : Walk (IteT K a) xs.length (fun H => SqT K H a xs) (YPair (fun i => some (.int (i : Nat))) (fun i => xs[i]?)) where
  goes := fun i H hi h => ⟨xs, xs[i], h, List.getElem?_eq_getElem hi⟩
  stops := fun H h => ⟨xs, h, rfl⟩
  yields := fun i H v H' hi h ⟨T, x, e1, e2, e3, f⟩ => ⟨T, _, x, e1, e2, e3, rfl, f xs h⟩
end My
namespace My
open PySem PySem.Spec PyProof.Rows L2 Evl
theorem get_list {X : Cx} : PGet X (rIxL X.K) := by
  intro pins s σ H x y v u Q I rx ry h
  obtain ⟨p, xs, i, z, rfl, rfl, hq, he, q⟩ := h
  cases rx
  obtain ⟨t, rfl⟩ := ry
  obtain ⟨its, r, pl, hz⟩ := I.list hq
  obtain ⟨j, h1, h2, h3, h4, h5⟩ := atI_get he
  obtain ⟨w, ew, rw'⟩ := r.get h2
  have hl := r.length
  have hn := line63
  have fin : EP X pins σ Q w s := ⟨z, H, I, rw', q⟩
  by_cases h0 : 0 ≤ i
  · have hj : i.toNat = j := by
      rw [seqIndex_of h0 h5] at h1
      exact Option.some.inj h1
    exact wpAny_getItem_list pl.isList h0 (by omega) (by rw [hj]; simpa using ew) fin
  · have hj : (i + (its.toArray.size : Int)).toNat = j := by
      rw [seqIndex_neg (by omega) h4] at h1
      rw [List.size_toArray, ← hl]
      exact Option.some.inj h1
    exact wpAny_getItem_list_neg pl.isList (by omega) (by rw [List.size_toArray] <;> omega) (by omega) (by rw [hj]; simpa using ew) fin
section
variable {K : PySem.W.Frag} {σ : L2.St} {H : Hp} {ta tb te tx : TE} {t u : TT} {x y z v : V} {D : Ends} {tu : TS} {tz : TS} {g : TG} {wi : TI}
/-- the iterator that a for begins with -/
def Gets (wi : TI) (σ : L2.St) (H : Hp) (J : It) : Prop := ∀ R : It → Hp → Prop, (∀ H1, Ex H H1 → R J H1) → wi σ H R
theorem s_forW {J : It} {n : Nat} {G : Hp → Prop} {Y : Nat → Hp → V → Hp → Prop} (h : Gets wi σ H J) (w : Walk J n G Y) (Pv : Nat → L2.St → Hp → Prop) (h0 : ∀ H1, Ex H H1 → Pv 0 σ H1) (hG : ∀ i σ H, i ≤ n → Pv i σ H → G H)
    (hs : ∀ i x σ' H' H2, i < n → Pv i σ' H' → Y i H' x H2 → g x σ' H2 fun σ2 H3 => tu { D with nx := Pv (i + 1), ct := Pv (i + 1), bk := D.nx } σ2 H3) (hd : ∀ σ' H', Pv n σ' H' → D.nx σ' H') : tFor wi g tu D σ H :=
  h _ fun H1 e => for_it w Pv (h0 H1 e) hG hs hd
theorem q_forW {J : It} {n : Nat} {G : Hp → Prop} {Y : Nat → Hp → V → Hp → Prop} (h : Gets wi σ H J) (w : Walk J n G Y) (Pv : Nat → L2.St → Hp → Prop) (h0 : ∀ H1, Ex H H1 → Pv 0 σ H1) (hG : ∀ i σ H, i ≤ n → Pv i σ H → G H)
    (hs : ∀ i x σ' H' H2, i < n → Pv i σ' H' → Y i H' x H2 → g x σ' H2 fun σ2 H3 => tu { D with nx := Pv (i + 1), ct := Pv (i + 1), bk := tz D } σ2 H3) (hd : ∀ σ' H', Pv n σ' H' → tz D σ' H') : tSeq (tFor wi g tu) tz D σ H :=
  s_forW (D := { D with nx := tz D }) h w Pv h0 hG hs hd
theorem gets_rev {a : Addr} {xs : List V} (h : Ev te σ H (.ref a)) (hx : SqL K H a xs) : Gets (iRev K (tCons te tNil)) σ H (Itv K a xs.length) := fun R q => h H (Ex.refl H) _ fun H1 e => ⟨a, xs, rfl, ex_l e hx, q H1 e⟩
theorem gets_enum {a : Addr} {xs : List V} (h : Ev te σ H (.ref a)) (hx : SqL K H a xs) : Gets (iEnum K (tCons te tNil)) σ H (Ite K a) := fun R q => h H (Ex.refl H) _ fun H1 e => ⟨a, xs, rfl, ex_l e hx, q H1 e⟩
theorem gets_enumT {a : Addr} {xs : List V} (h : Ev te σ H (.ref a)) (hx : SqT K H a xs) : Gets (iEnumT K (tCons te tNil)) σ H (IteT K a) := fun R q => h H (Ex.refl H) _ fun H1 e => ⟨a, xs, rfl, ex_t e hx, q H1 e⟩
theorem gets_zip {a b : Addr} {xs ys : List V} (h : Ev ta σ H (.ref a)) (h2 : Ev tb σ H (.ref b)) (hx : SqL K H a xs) (hy : SqL K H b ys) : Gets (iZip K (tCons ta (tCons tb tNil))) σ H (Itz K a b) :=
  fun R q => h H (Ex.refl H) _ fun H1 e => h2 H1 e _ fun H2 e2 => ⟨a, b, xs, ys, rfl, ex_l (e.trans e2) hx, ex_l (e.trans e2) hy, q H2 (e.trans e2)⟩
theorem gets_list {a : Addr} {xs : List V} (h : Ev te σ H (.ref a)) (hx : SqL K H a xs) : Gets (iList K te) σ H (Itl K a) := fun R q => h H (Ex.refl H) _ fun H1 e => ⟨a, rfl, ⟨xs, ex_l e hx⟩, q H1 e⟩
/-- i, x = the pair -/
theorem g_pair {T : Addr} {i j : Nat} {Q : L2.St → Hp → Prop} {H2 : Hp} (h : SqT K H2 T [x, y]) (q : Q ((σ.set i (some x)).set j (some y)) H2) : gTup K 2 (gCons (gName i) (gCons (gName j) gNil)) (.ref T) σ H2 Q :=
  ⟨T, [x, y], rfl, h, rfl, x, [y], rfl, y, [], rfl, rfl, q⟩
theorem ex_newT {T : Addr} {o : HO} (h : H T = none) : Ex H (upd H T o) := Ex.new h
/-- o[i] op= e, a list of ints -/
theorem s_augS {f : Int → Int → Int} {l : Addr} {xs : List V} {j : Nat} {a b : Int} (hl : H l = some (.lst xs)) (ho : Ev ta σ H (.ref l)) (hi : Ev tb σ H (.int (j : Int))) (hj : j < xs.length) (hx : xs[j]? = some (.int a)) (h : Ev te σ H (.int b))
    (k : ∀ H1, Ex H H1 → D.nx σ (upd H1 l (.lst (xs.set j (.int (f a b)))))) : tAugS ta tb te (rIxL K) (ipI f) rSetL D σ H :=
  ho H (Ex.refl H) _ fun H1 e1 => hi H1 e1 _ fun H2 e2 => by
    have e := e1.trans e2
    have hn : ixN xs.length (j : Int) = some j := ixN_nat hj
    refine ⟨l, xs, (j : Int), .int a, rfl, rfl, sq_of (e l _ hl), by unfold atI; rw [hn]; exact hx, ?_⟩
    refine h H2 e _ fun H3 e3 => ⟨a, b, rfl, rfl, l, xs, (j : Int), j, rfl, rfl, e3 l _ (e l _ hl), hn, k H3 (e.trans e3)⟩
theorem q_augS {f : Int → Int → Int} {l : Addr} {xs : List V} {j : Nat} {a b : Int} (hl : H l = some (.lst xs)) (ho : Ev ta σ H (.ref l)) (hi : Ev tb σ H (.int (j : Int))) (hj : j < xs.length) (hx : xs[j]? = some (.int a)) (h : Ev te σ H (.int b))
    (k : ∀ H1, Ex H H1 → tz D σ (upd H1 l (.lst (xs.set j (.int (f a b)))))) : tSeq (tAugS ta tb te (rIxL K) (ipI f) rSetL) tz D σ H := s_augS (D := { D with nx := tz D }) hl ho hi hj hx h k
/-- a, b = x, y -/
theorem s_par {i j : Nat} {vs : TA} (h : EvA vs σ H [x, y]) (k : ∀ H1, Ex H H1 → D.nx ((σ.set i (some x)).set j (some y)) H1) : tPar i j vs D σ H := h H (Ex.refl H) _ fun H1 e => ⟨x, y, rfl, k H1 e⟩
theorem q_par {i j : Nat} {vs : TA} (h : EvA vs σ H [x, y]) (k : ∀ H1, Ex H H1 → tz D ((σ.set i (some x)).set j (some y)) H1) : tSeq (tPar i j vs) tz D σ H := s_par (D := { D with nx := tz D }) h k
/-- a chain of comparisons -/
theorem ev_chain {r r' : R2} {b c : Bool} (ha : Ev ta σ H x) (hb : Ev tb σ H y) (hr : RV r x y H (.bl b)) (hc : b = true → Ev tx σ H z) (hr' : b = true → RV r' y z H (.bl c)) : Ev (tChain r r' ta tb tx) σ H (.bl (b && c)) := fun H1 e Q q =>
  ha H1 e _ fun H2 e2 => hb H2 (e.trans e2) _ fun H3 e3 => hr H3 ((e.trans e2).trans e3) _ fun H4 e4 => ⟨b, rfl, by
    cases b with
    | true => exact hc rfl H4 (((e.trans e2).trans e3).trans e4) _ fun H5 e5 => hr' rfl H5 ((((e.trans e2).trans e3).trans e4).trans e5) Q fun H6 e6 => q H6 ((((e2.trans e3).trans e4).trans e5).trans e6)
    | false => exact q H4 ((e2.trans e3).trans e4)⟩
/-- truth of a list -/
theorem et_truL {a : Addr} {xs : List V} (h : Ev te σ H (.ref a)) (hx : SqL K H a xs) : EvT (fun σ H Q => te σ H fun x H' => ∃ k, TruV K x H' k ∧ Q k H') σ H (!xs.isEmpty) := fun H1 e Q q =>
  h H1 e _ fun H2 e2 => ⟨_, .inl ⟨xs, ex_l (e.trans e2) hx, rfl⟩, q H2 e2⟩
/-- xs.pop() as a value, then a statement: the list changed -/
theorem s_pop {l : Addr} {xs : List V} (hl : H l = some (.lst xs)) (ha : Ev ta σ H (.ref l)) (hx : xs[xs.length - 1]? = some v) (k : ∀ H1, Ex H H1 → D.nx σ (upd H1 l (.lst xs.dropLast))) :
    tDrop (tBM0 K "list" rPop ta) D σ H := ha H (Ex.refl H) _ fun H1 e1 =>
  ⟨Or.inl ⟨rfl, xs, sq_of (e1 l _ hl)⟩, ⟨l, xs, v, rfl, rfl, e1 l _ hl, hx, k H1 e1⟩⟩
theorem q_pop {l : Addr} {xs : List V} (hl : H l = some (.lst xs)) (ha : Ev ta σ H (.ref l)) (hx : xs[xs.length - 1]? = some v) (k : ∀ H1, Ex H H1 → tz D σ (upd H1 l (.lst xs.dropLast))) :
    tSeq (tDrop (tBM0 K "list" rPop ta)) tz D σ H := s_pop (D := { D with nx := tz D }) hl ha hx k
/-- i = xs.pop() % p -/
theorem q_popMod {i : Nat} {l : Addr} {xs : List V} {n p : Int} (hl : H l = some (.lst xs)) (ha : Ev ta σ H (.ref l)) (hx : xs[xs.length - 1]? = some (.int n)) (hp : 0 < p) (hb : ∀ H', Ev tb σ H' (.int p))
    (k : ∀ H1 H2, Ex H H1 → Ex (upd H1 l (.lst xs.dropLast)) H2 → tz D (σ.set i (some (.int (n % p)))) H2) : tSeq (tAsg (tOp (rI (fun _ j => 0 < j) fun i j => .int (i % j)) (tBM0 K "list" rPop ta) tb) (gName i)) tz D σ H :=
  ha H (Ex.refl H) _ fun H1 e1 =>
  ⟨Or.inl ⟨rfl, xs, sq_of (e1 l _ hl)⟩, ⟨l, xs, .int n, rfl, rfl, e1 l _ hl, hx, hb _ _ (Ex.refl _) _ fun H2 e2 => ⟨n, p, rfl, rfl, hp, k H1 H2 e1 e2⟩⟩⟩
/-- i = xs.pop() -/
theorem q_popS {i : Nat} {l : Addr} {xs : List V} (hl : H l = some (.lst xs)) (ha : Ev ta σ H (.ref l)) (hx : xs[xs.length - 1]? = some v)
    (k : ∀ H1, Ex H H1 → tz D (σ.set i (some v)) (upd H1 l (.lst xs.dropLast))) : tSeq (tAsg (tBM0 K "list" rPop ta) (gName i)) tz D σ H :=
  ha H (Ex.refl H) _ fun H1 e1 => ⟨Or.inl ⟨rfl, xs, sq_of (e1 l _ hl)⟩, ⟨l, xs, v, rfl, rfl, e1 l _ hl, hx, k H1 e1⟩⟩
/-- [x] * n, xs + ys: new lists -/
theorem el_rep {xs : List V} {n : Int} (h : EvL ta σ H xs) (hb : ∀ H1, Ex H H1 → Ev tb σ H1 (.int n)) (hn : -1000 ≤ n ∧ n ≤ 1000) (hx : xs.length ≤ 10) : EvL (tOp rRep ta tb) σ H (List.replicate n.toNat xs).flatten := fun H1 e Q q =>
  h H1 e _ fun p H2 hp e2 h2 => hb H2 (e.trans e2) H2 (Ex.refl H2) _ fun H3 e3 => ⟨p, n, xs, rfl, rfl, e3 p _ h2, by omega, by omega, by
    refine sz_of (Nat.le_trans (Nat.mul_le_mul hx (Nat.le_refl _)) ?_); omega, fun l hl => q l _ (fresh_back (e2.trans e3) hl) ((e2.trans e3).trans (Ex.new hl)) upd_same⟩
theorem el_cat {xs ys : List V} (h : EvL ta σ H xs) (hb : ∀ H1, Ex H H1 → EvL tb σ H1 ys) (hn : xs.length + ys.length ≤ 100000) : EvL (tOp rCat ta tb) σ H (xs ++ ys) := fun H1 e Q q =>
  h H1 e _ fun p H2 hp e2 h2 => hb H2 (e.trans e2) H2 (Ex.refl H2) _ fun p2 H3 hp2 e3 h3 => ⟨p, p2, xs, ys, rfl, rfl, e3 p _ h2, h3, sz_of hn, fun l hl => q l _ (fresh_back (e2.trans e3) hl) ((e2.trans e3).trans (Ex.new hl)) upd_same⟩
/-- the first operand a known list -/
theorem el_catK {a : Addr} {xs ys : List V} (h : Ev ta σ H (.ref a)) (ha : H a = some (.lst xs)) (hb : ∀ H1, Ex H H1 → EvL tb σ H1 ys) (hn : xs.length + ys.length ≤ 100000) : EvL (tOp rCat ta tb) σ H (xs ++ ys) := fun H1 e Q q =>
  h H1 e _ fun H2 e2 => hb H2 (e.trans e2) H2 (Ex.refl H2) _ fun p2 H3 hp2 e3 h3 => ⟨a, p2, xs, ys, rfl, rfl, e3 a _ (e2 a _ (e a _ ha)), h3, sz_of hn, fun l hl => q l _ (fresh_back (e2.trans e3) hl) ((e2.trans e3).trans (Ex.new hl)) upd_same⟩
theorem rep1 (x : V) : ∀ n : Nat, (List.replicate n [x]).flatten = List.replicate n x
  | 0 => rfl
  | n + 1 => by rw [List.replicate_succ, List.flatten_cons, rep1 x n]; rfl
/-- a, *xs, b as a list -/
theorem ea_star {p : Addr} {xs vs : List V} {tr : TA} (h : Ev te σ H (.ref p)) (hx : SqT K H p xs ∨ SqL K H p xs) (hr : EvA tr σ H vs) : EvA (StX.tStar K te tr) σ H (xs ++ vs) := fun H1 e Q q =>
  h H1 e _ fun H2 e2 => ⟨p, xs, rfl, hx.imp (ex_t (e.trans e2)) (ex_l (e.trans e2)), hr H2 (e.trans e2) _ fun H3 e3 => q H3 (e2.trans e3)⟩
/-- int(..) of an int, of a bool; abs; max, min -/
theorem ev_int {n : Int} {ta : TA} (h : EvA ta σ H [.int n]) : Ev (tCB (fun xs H Q => (∃ i, xs = [V.int i] ∧ Q (.int i) H) ∨ ∃ k, xs = [V.bl k] ∧ Q (.int (if k then 1 else 0)) H) ta) σ H (.int n) := fun H1 e Q q =>
  h H1 e _ fun H2 e2 => .inl ⟨n, rfl, q H2 e2⟩
theorem ev_intB {b : Bool} {ta : TA} (h : EvA ta σ H [.bl b]) : Ev (tCB (fun xs H Q => (∃ i, xs = [V.int i] ∧ Q (.int i) H) ∨ ∃ k, xs = [V.bl k] ∧ Q (.int (if k then 1 else 0)) H) ta) σ H (.int (if b then 1 else 0)) := fun H1 e Q q =>
  h H1 e _ fun H2 e2 => .inr ⟨b, rfl, q H2 e2⟩
theorem ev_abs {n : Int} {ta : TA} (h : EvA ta σ H [.int n]) : Ev (tCB (fun xs H Q => ∃ i, xs = [V.int i] ∧ Q (.int (if i < 0 then -i else i)) H) ta) σ H (.int (if n < 0 then -n else n)) := fun H1 e Q q =>
  h H1 e _ fun H2 e2 => ⟨n, rfl, q H2 e2⟩
theorem ev_lenL {p : Addr} {xs : List V} (ha : Ev ta σ H (.ref p)) (h : SqL K H p xs ∨ SqT K H p xs) : Ev (tCB (fun vs H Q => ∃ p ys, vs = [V.ref p] ∧ (SqL K H p ys ∨ SqT K H p ys) ∧ Q (.int (ys.length : Int)) H) (tCons ta tNil)) σ H (.int (xs.length : Int)) := fun H1 e Q q =>
  ha H1 e _ fun H2 e2 => ⟨p, xs, rfl, h.imp (ex_l (e.trans e2)) (ex_t (e.trans e2)), q H2 e2⟩
/-- tuple(xs), list(xs) -/
theorem eu_tuple {p : Addr} {xs : List V} (ha : Ev ta σ H (.ref p)) (h : SqL K H p xs) : EvU (tCB (fun vs H Q => ∃ p ys, vs = [V.ref p] ∧ ((SqL K H p ys ∧ ∀ l, H l = none → Q (.ref l) (upd H l (.tup ys))) ∨ (SqT K H p ys ∧ Q (.ref p) H))) (tCons ta tNil)) σ H xs := fun H1 e Q q =>
  ha H1 e _ fun H2 e2 => ⟨p, xs, rfl, .inl ⟨ex_l (e.trans e2) h, fun l hl => q l _ (fresh_back e2 hl) (e2.trans (Ex.new hl)) upd_same⟩⟩
theorem el_listOf {p : Addr} {xs : List V} (ha : Ev ta σ H (.ref p)) (h : SqL K H p xs ∨ SqT K H p xs) : EvL (tCB (fun vs H Q => ∃ p ys, vs = [V.ref p] ∧ (SqL K H p ys ∨ SqT K H p ys) ∧ ∀ l, H l = none → Q (.ref l) (upd H l (.lst ys))) (tCons ta tNil)) σ H xs := fun H1 e Q q =>
  ha H1 e _ fun H2 e2 => ⟨p, xs, rfl, h.imp (ex_l (e.trans e2)) (ex_t (e.trans e2)), fun l hl => q l _ (fresh_back e2 hl) (e2.trans (Ex.new hl)) upd_same⟩
theorem rv_ixLn {p : Addr} {xs : List V} {j : Nat} (h : SqL K H p xs) (ha : xs[j]? = some v) : RV (rIxL K) (.ref p) (.int (j : Int)) H v := rv_ixL h (atI_nat ha)
theorem rv_ixTn {p : Addr} {xs : List V} {j : Nat} (h : SqT K H p xs) (ha : xs[j]? = some v) : RV (rIxT K) (.ref p) (.int (j : Int)) H v := rv_ixT h (atI_nat ha)
end
theorem ints_get {ns : List Int} {i : Nat} {x : V} (h : (ns.map V.int)[i]? = some x) : ∃ n, ns[i]? = some n ∧ x = .int n := by
  rw [List.getElem?_map] at h
  cases e : ns[i]? with
  | none => rw [e] at h; cases h
  | some n => rw [e] at h; exact ⟨n, rfl, (Option.some.inj h).symm⟩
theorem ints_at {ns : List Int} {i : Nat} {n : Int} (h : ns[i]? = some n) : (ns.map V.int)[i]? = some (.int n) := by rw [List.getElem?_map, h]; rfl
/-- a new tuple -/
def RetU (xs : List V) (H : Hp) (Q : VK) : Prop := ∀ p H2, H p = none → Ex H H2 → H2 p = some (.tup xs) → Q (.ref p) H2
end My
namespace My
open PySem PySem.Spec PyProof.Rows L2 Evl
section
variable {K : PySem.W.Frag} {σ : L2.St} {H : Hp} {ta tb te tx : TE}
theorem gets_r1 {n : Int} (h : Ev te σ H (.int n)) (hn : -(2 ^ 62) ≤ n ∧ n < 2 ^ 62) : Gets (iRng1 (tCons te tNil)) σ H (Itr 0 n.toNat) := fun R q => h H (Ex.refl H) _ fun H1 e => ⟨n, rfl, hn.1, hn.2, q H1 e⟩
theorem gets_r2 {lo n : Int} (h : Ev ta σ H (.int lo)) (h2 : Ev tb σ H (.int n)) (hn : -(2 ^ 62) ≤ lo ∧ lo < 2 ^ 62 ∧ -(2 ^ 62) ≤ n ∧ n < 2 ^ 62) : Gets (iRng2 (tCons ta (tCons tb tNil))) σ H (Itr lo (n - lo).toNat) :=
  fun R q => h H (Ex.refl H) _ fun H1 e => h2 H1 e _ fun H2 e2 => ⟨lo, n, rfl, hn, q H2 (e.trans e2)⟩
end
end My
namespace My
open PySem PySem.Spec PyProof.Rows L2 Evl
theorem pe_gi {X : Cx} {x : Str} {n : Int} {pos : Pos} (hg : Gl X x) (h : ∃ t, X.mg x = some (.int n t)) (hdb : (x == ("__debug__" : Str)) = false := by decide) : PE X (.Name x pos) (tC (.int n)) := by
  obtain ⟨t, h⟩ := h
  exact pe_glob hg h ⟨t, rfl⟩ hdb
section
variable {K : PySem.W.Frag} {σ : L2.St} {H : Hp} {ta tb te tx : TE} {x y : V} {D : Ends} {tz : TS}
theorem s_parL {i j : Nat} {ys : List V} (h : Ev ta σ H x) (hb : EvL tb σ H ys) (k : ∀ p H1, H p = none → Ex H H1 → H1 p = some (.lst ys) → D.nx ((σ.set i (some x)).set j (some (.ref p))) H1) : tPar i j (tCons ta (tCons tb tNil)) D σ H :=
  h H (Ex.refl H) _ fun H1 e1 => hb H1 e1 _ fun p H2 hp e2 h2 => ⟨x, .ref p, rfl, k p H2 (fresh_back e1 hp) (e1.trans e2) h2⟩
theorem q_parL {i j : Nat} {ys : List V} (h : Ev ta σ H x) (hb : EvL tb σ H ys) (k : ∀ p H1, H p = none → Ex H H1 → H1 p = some (.lst ys) → tz D ((σ.set i (some x)).set j (some (.ref p))) H1) : tSeq (tPar i j (tCons ta (tCons tb tNil))) tz D σ H :=
  s_parL (D := { D with nx := tz D }) h hb k
end
end My
namespace My
open PySem PySem.Spec PyProof.Rows L2 Evl
section
variable {K : PySem.W.Frag} {σ : L2.St} {H : Hp} {te : TE}
theorem gets_tup {a : Addr} {xs : List V} (h : Ev te σ H (.ref a)) (hx : SqT K H a xs) : Gets (iTup K te) σ H (Itt K a) := fun R q => h H (Ex.refl H) _ fun H1 e => ⟨a, rfl, ⟨xs, ex_t e hx⟩, q H1 e⟩
end
end My
namespace My
open PySem PySem.Spec PyProof.Rows L2 Evl
section
variable {K : PySem.W.Frag} {σ : L2.St} {H : Hp} {te : TE} {x y : V} {D : Ends} {tz : TS}
/-- i, j = a new pair -/
theorem s_asgT2 {i j : Nat} (h : EvU te σ H [x, y]) (k : ∀ H1, Ex H H1 → D.nx ((σ.set i (some x)).set j (some y)) H1) : tAsg te (gTup K 2 (gCons (gName i) (gCons (gName j) gNil))) D σ H :=
  h H (Ex.refl H) _ fun p H1 _ e hp => g_pair (st_of hp) (k H1 e)
theorem q_asgT2 {i j : Nat} (h : EvU te σ H [x, y]) (k : ∀ H1, Ex H H1 → tz D ((σ.set i (some x)).set j (some y)) H1) : tSeq (tAsg te (gTup K 2 (gCons (gName i) (gCons (gName j) gNil)))) tz D σ H :=
  s_asgT2 (D := { D with nx := tz D }) h k
/-- i, j = a known pair -/
theorem q_asgP {i j : Nat} {p : Addr} (h : Ev te σ H (.ref p)) (hp : SqT K H p [x, y]) (k : ∀ H1, Ex H H1 → tz D ((σ.set i (some x)).set j (some y)) H1) : tSeq (tAsg te (gTup K 2 (gCons (gName i) (gCons (gName j) gNil)))) tz D σ H :=
  h H (Ex.refl H) _ fun H1 e => g_pair (ex_t e hp) (k H1 e)
end
end My
namespace My
open PySem PySem.Spec PyProof.Rows L2 Evl
def iEnumA (K : PySem.W.Frag) (ta : TA) : TI := fun σ H R => ta σ H fun vs H1 => ∃ a xs, vs = [.ref a] ∧ ((SqL K H1 a xs ∧ R (Ite K a) H1) ∨ (SqT K H1 a xs ∧ R (IteT K a) H1))
theorem pi_enumA {X : Cx} {e : Expr} {ta : TA} {p pos tpos : Pos} {elts : List Expr} {kk : Nat} (hg : Gl X "enumerate") (hm : X.mg "enumerate" = none) (ha : PA X [e] ta) (hs : starEach [e] X.env = [(false, eval e X.env)] := by rfl) :
    PI X (.Tuple elts kk tpos) (.Call (.Name "enumerate" p) [e] [] pos) (iEnumA X.K ta) := by
  refine ⟨fun pins s σ H R I h => ?_⟩
  refine Call_ (ld_blt I hg hm boot_enumerate (PyProof.Rows.callWith_type1 (thn (ha.run pos pins s σ H _ I h) fun us s1 ⟨vs, H1, I1, r1, q1⟩ => ?_) hs rfl))
  obtain ⟨a, xs, ex, q⟩ := q1
  subst ex
  cases r1 with
  | cons r rr =>
    cases rr
    cases r
    have fp : ∀ b, b ∈ [s1.heap.objs.size + 1, s1.heap.objs.size] → FpOk X pins H1 b := fun b hb => by
      have e' : b = s1.heap.objs.size + 1 ∨ b = s1.heap.objs.size := by simpa using hb
      have hle : s1.heap.objs.size ≤ b := by
        rcases e' with z | z
        · rw [z]; exact Nat.le_add_right _ _
        · rw [z]; exact Nat.le_refl _
      exact I1.fpOk hle (I1.hok.fresh hle)
    rcases q with ⟨hq, q⟩ | ⟨hq, q⟩
    · obtain ⟨its, rv, p', hz⟩ := I1.list hq
      refine call_enumerate_list p'.isList fun h' he hit hsz hk => wpAny_pyIter_enum he ?_
      have I2 : Inv X pins σ H1 { s1 with heap := h' } := I1.kept (t' := s1.toks) hk
      exact ⟨s1.heap.objs.size + 1, [s1.heap.objs.size + 1, s1.heap.objs.size], _, _, H1, rfl, I2, turn_enum a (s1.heap.objs.size + 1) s1.heap.objs.size, ⟨⟨.none, he⟩, hit, Nat.succ_ne_self _⟩, fp, q⟩
    · obtain ⟨its, rv, p', hz⟩ := I1.tuple hq
      have hal : a < s1.heap.objs.size := by obtain ⟨_, q, _⟩ := id p'; exact Heap.lt_size q
      refine F9.call_enumerate_tuple p' fun h' he hit hsz hk => wpAny_pyIter_enum he ?_
      have I2 : Inv X pins σ H1 { s1 with heap := h' } := I1.kept (t' := s1.toks) hk
      exact ⟨s1.heap.objs.size + 1, [s1.heap.objs.size + 1, s1.heap.objs.size], _, _, H1, rfl, I2, turn_enumT a (s1.heap.objs.size + 1) s1.heap.objs.size (Nat.ne_of_lt hal), ⟨⟨.none, he⟩, hit, Nat.succ_ne_self _, Nat.ne_of_gt (Nat.lt_succ_of_lt hal)⟩, fp, q⟩
/-- a list or a tuple -/
def SqA (K : PySem.W.Frag) (H : Hp) (a : Addr) (xs : List V) : Prop := SqL K H a xs ∨ SqT K H a xs
theorem SqA.mono {K : PySem.W.Frag} {H H' : Hp} {a : Addr} {xs : List V} (e : Ex H H') (h : SqA K H a xs) : SqA K H' a xs := h.imp (ex_l e) (ex_t e)
section
variable {K : PySem.W.Frag} {σ : L2.St} {H : Hp} {te : TE} {x y : V} {D : Ends} {tz : TS} {g : TG} {tt : TT} {wi : TI}
/-- the pair's walk, over a list or a tuple -/
structure EnJ (K : PySem.W.Frag) (a : Addr) (xs : List V) (J : It) : Prop where
  walk : ∃ G : Hp → Prop, (∀ H, SqA K H a xs → G H) ∧ Walk J xs.length G (YPair (fun i => some (.int (i : Nat))) (fun i => xs[i]?))
theorem enumA {a : Addr} {xs : List V} (h : Ev te σ H (.ref a)) (hx : SqA K H a xs) {R : It → Hp → Prop} (k : ∀ (J : It) (G : Hp → Prop) (H1 : Hp), Walk J xs.length G (YPair (fun i => some (.int (i : Nat))) (fun i => xs[i]?)) → (∀ H2, Ex H H2 → G H2) → Ex H H1 → R J H1) :
    iEnumA K (tCons te tNil) σ H R := h H (Ex.refl H) _ fun H1 e => by
  rcases hx with hx | hx
  · exact ⟨a, xs, rfl, .inl ⟨ex_l e hx, k _ _ H1 walk_enum (fun H2 e2 => ex_l e2 hx) e⟩⟩
  · exact ⟨a, xs, rfl, .inr ⟨ex_t e hx, k _ _ H1 walk_enumT (fun H2 e2 => ex_t e2 hx) e⟩⟩
/-- a comprehension over a walk -/
theorem lcW {J : It} {n : Nat} {G : Hp → Prop} {Y : Nat → Hp → V → Hp → Prop} {vs : List Nat} {Q : VK} (h : Gets wi σ H J) (w : Walk J n G Y) (Pv : Addr → Nat → Hp → Prop) (h0 : ∀ D H1, Ex H H1 → H1 D = none → Pv D 0 (upd H1 D (.lst []))) (hG : ∀ D i H', i ≤ n → Pv D i H' → G H')
    (hs : ∀ D i x H' H2, i < n → Pv D i H' → Y i H' x H2 → g x (wipe σ vs) H2 fun σ2 H3 => wipe σ2 vs = wipe σ vs ∧ tt σ2 H3 fun b H4 => if b = true then te σ2 H4 fun y H5 => ∃ acc, H5 D = some (.lst acc) ∧ acc.length < sizeLine ∧ Pv D (i + 1) (upd H5 D (.lst (acc ++ [y]))) else Pv D (i + 1) H4)
    (hd : ∀ D H', Pv D n H' → Q (.ref D) H') : tLc wi g tt te vs σ H Q := h _ fun H1 e D hD => lc_it w (Pv D) (h0 D H1 e hD) (hG D) (hs D) (hd D)
end
/-- pairs of ints at addresses -/
def PairsAt (H : Hp) : List V → List (Nat × Int) → Prop := Paired (fun x q => ∃ t, x = V.ref t ∧ H t = some (.tup [.int (q.1 : Nat), .int q.2]))
theorem PairsAt.mono {H H' : Hp} (e : Ex H H') : ∀ {xs : List V} {ps : List (Nat × Int)}, PairsAt H xs ps → PairsAt H' xs ps
  | _, _, .nil => .nil
  | _, _, .cons ⟨t, h1, h2⟩ r => .cons ⟨t, h1, e _ _ h2⟩ (PairsAt.mono e r)
theorem PairsAt.snoc {H : Hp} {x : V} {q : Nat × Int} (h : ∃ t, x = V.ref t ∧ H t = some (.tup [.int (q.1 : Nat), .int q.2])) : ∀ {xs : List V} {ps : List (Nat × Int)}, PairsAt H xs ps → PairsAt H (xs ++ [x]) (ps ++ [q])
  | _, _, .nil => .cons h .nil
  | _, _, .cons r t => .cons r (PairsAt.snoc h t)
theorem PairsAt.get {H : Hp} : ∀ {xs : List V} {ps : List (Nat × Int)} {i : Nat} {x : V}, PairsAt H xs ps → xs[i]? = some x → ∃ q, ps[i]? = some q ∧ ∃ t, x = V.ref t ∧ H t = some (.tup [.int (q.1 : Nat), .int q.2])
  | _, _, _, _, .nil, e => by simp at e
  | _, _, 0, _, .cons (b := q) r _, e => by simp at e; subst e; exact ⟨q, rfl, r⟩
  | _, _, i + 1, x, .cons _ t, e => by
    obtain ⟨q, h1, h2⟩ := PairsAt.get (i := i) (x := x) t (by simpa using e)
    exact ⟨q, by simpa using h1, h2⟩
theorem PairsAt.len {H : Hp} : ∀ {xs : List V} {ps : List (Nat × Int)}, PairsAt H xs ps → xs.length = ps.length
  | _, _, .nil => rfl
  | _, _, .cons _ t => congrArg (· + 1) (PairsAt.len t)
end My
namespace My
open PySem PySem.Spec PyProof.Rows L2 Evl
theorem PairsAt.upd {H : Hp} {D : Addr} {a : List V} {o : HO} (hD : H D = some (.lst a)) : ∀ {xs : List V} {ps : List (Nat × Int)}, PairsAt H xs ps → PairsAt (upd H D o) xs ps
  | _, _, .nil => .nil
  | _, _, .cons ⟨t, h1, h2⟩ r => .cons ⟨t, h1, by rw [upd_ne (ne_of h2 hD (fun z => nomatch z))]; exact h2⟩ (PairsAt.upd hD r)
section
variable {K : PySem.W.Frag} {σ : L2.St} {H : Hp} {te tl : TE}
theorem et_yes : EvT tYes σ H true := fun H1 _ _ q => q H1 (Ex.refl H1)
theorem given_map {f : Int → Int} (ns : List Int) : given ns.length (fun _ => true) (fun i => .int (f (ns.getD i 0))) = (ns.map f).map V.int := by
  unfold given
  rw [List.filter_eq_self.mpr (fun _ _ => rfl)]
  apply List.ext_getElem?
  intro i
  rw [List.getElem?_map, List.getElem?_map, List.getElem?_map]
  by_cases h : i < ns.length
  · rw [List.getElem?_range h, List.getElem?_eq_getElem h]
    simp [List.getD_eq_getElem?_getD, h]
  · rw [List.getElem?_eq_none (by simpa using Nat.not_lt.mp h), List.getElem?_eq_none (by simpa using Nat.not_lt.mp h)]; rfl
theorem el_mapI {j : Nat} {vs : List Nat} {a : Addr} {ns : List Int} (f : Int → Int) (h : Ev tl σ H (.ref a)) (hx : SqL K H a (ns.map V.int)) (hz : ns.length ≤ 40000) (hw : ∀ x, wipe ((wipe σ vs).set j (some x)) vs = wipe σ vs)
    (he : ∀ (n : Int) H1, n ∈ ns → Ex H H1 → Ev te ((wipe σ vs).set j (some (.int n))) H1 (.int (f n))) : EvL (tLc (iList K tl) (gName j) tYes te vs) σ H ((ns.map f).map V.int) := by
  rw [← given_map]
  have hl : ns.length = (ns.map V.int).length := (List.length_map _).symm
  rw [hl]
  refine el_lcL _ _ h hx (by rw [List.length_map]; exact hz) hw (fun i x H1 e hi => et_yes) fun i x H1 e hi _ => ?_
  obtain ⟨n, hn, rfl⟩ := ints_get hi
  have e1 : ns.getD i 0 = n := by rw [List.getD_eq_getElem?_getD, hn]; rfl
  rw [e1]
  exact he n H1 (List.mem_of_getElem? hn) e
end
theorem getD_at {ns : List Int} {i : Nat} (h : i < ns.length) : ns[i]? = some (ns.getD i 0) := by rw [List.getD_eq_getElem?_getD, List.getElem?_eq_getElem h]; rfl
theorem getD_of {ns : List Int} {i : Nat} {n : Int} (h : ns[i]? = some n) : ns.getD i 0 = n := by rw [List.getD_eq_getElem?_getD, h]; rfl
theorem take_at {α : Type} {ns : List α} {i : Nat} {n : α} (h : ns[i]? = some n) : ns.take (i + 1) = ns.take i ++ [n] := by rw [List.take_add_one, h]; rfl
end My
namespace My
open PySem PySem.Spec PyProof.Rows L2 Evl
section
variable {X : Cx} {K : PySem.W.Frag} {pos : Pos}
theorem ix_listK (h : X.K = K) : IxR X (rIxL K) := h ▸ ix_list
theorem ix_tupK (h : X.K = K) : IxR X (rIxT K) := h ▸ ix_tup
theorem call_lenK (h : X.K = K) : CallR X (.builtin "len") (fun xs H Q => ∃ p ys, xs = [.ref p] ∧ (SqL K H p ys ∨ SqT K H p ys) ∧ Q (.int ys.length) H) := h ▸ call_len_seq
theorem call_tupleK (h : X.K = K) : CallR X (.type "tuple") (fun xs H Q => ∃ p ys, xs = [.ref p] ∧ ((SqL K H p ys ∧ ∀ l, H l = none → Q (.ref l) (upd H l (.tup ys))) ∨ (SqT K H p ys ∧ Q (.ref p) H))) := h ▸ call_tuple_of
theorem call_listK (h : X.K = K) : CallR X (.type "list") (fun xs H Q => ∃ p ys, xs = [.ref p] ∧ (SqL K H p ys ∨ SqT K H p ys) ∧ ∀ l, H l = none → Q (.ref l) (upd H l (.lst ys))) := h ▸ call_list_of
theorem pg_tupK (h0 : X.K = K) {es : List Expr} {k : Nat} {t : TGs} {n : Nat} (hc : X.calm = true) (h : PGs X es t)
    (hn : (assignEach es X.env).length = n := by rfl) (hst : (assignEach es X.env).findIdx? (·.1) = none := by rfl) : PG X (.Tuple es k pos) (gTup K n t) := h0 ▸ pg_tup hc h hn hst
theorem pi_listK {tg l : Expr} {tl : TE} (h0 : X.K = K) (h : PE X l tl) : PI X tg l (iList K tl) := h0 ▸ pi_list h
theorem pi_tupK {tg l : Expr} {tl : TE} (h0 : X.K = K) (h : PE X l tl) : PI X tg l (iTup K tl) := h0 ▸ pi_tup h
end
end My
namespace My
open PySem PySem.Spec PyProof.Rows L2 Evl
section
variable {K : PySem.W.Frag} {σ : L2.St} {H : Hp} {te t0 : TE} {D : Ends} {tz : TS} {g : TG} {tt : TT}
theorem lcEA {a : Addr} {xs : List V} {vs : List Nat} {Q : VK} (h : Ev t0 σ H (.ref a)) (hx : SqA K H a xs) (Pv : Addr → Nat → Hp → Prop) (h0 : ∀ D H1, Ex H H1 → H1 D = none → Pv D 0 (upd H1 D (.lst []))) (hE : ∀ D i H', Pv D i H' → Ex H H')
    (hs : ∀ D i x H' H2, i < xs.length → Pv D i H' → YPair (fun i => some (.int (i : Nat))) (fun i => xs[i]?) i H' x H2 → g x (wipe σ vs) H2 fun σ2 H3 => wipe σ2 vs = wipe σ vs ∧ tt σ2 H3 fun b H4 => if b = true then te σ2 H4 fun y H5 => ∃ acc, H5 D = some (.lst acc) ∧ acc.length < sizeLine ∧ Pv D (i + 1) (upd H5 D (.lst (acc ++ [y]))) else Pv D (i + 1) H4)
    (hd : ∀ D H', Pv D xs.length H' → Q (.ref D) H') : tLc (iEnumA K (tCons t0 tNil)) g tt te vs σ H Q :=
  enumA h hx fun J G H1 wk hG e D hD => lc_it wk (Pv D) (h0 D H1 e hD) (fun i H' _ p => hG H' (hE D i H' p)) (hs D) (hd D)
theorem q_asgTE {i : Nat} (h : te σ H (fun x H1 => tz D (σ.set i (some x)) H1)) : tSeq (tAsg te (gName i)) tz D σ H := h
end
end My
namespace My
open PySem PySem.Spec PyProof.Rows L2 Evl
/-! ### a class, its __init__, its methods -/
structure Md (P : Program) (w : World) (K : PySem.W.Frag) (mg : Str → Option Value) (base : Heap) (k : Nat) (x : Str) (C : Addr) (sp : Sp) : Prop where
  ex : ∃ (f : Addr) (fd : FuncData) (ps : List Str), Mk K C f ∧ FnOk P w K mg base L2.CX0 k f fd ps sp ∧ mg x = some (.ref C) ∧ Binds K fd ps []
structure Td (P : Program) (w : World) (K : PySem.W.Frag) (mg : Str → Option Value) (base : Heap) (k : Nat) (C : Addr) (m : Str) (sp : Sp) : Prop where
  ex : ∃ (f : Addr) (fd : FuncData) (ps : List Str), Cls K C ∧ Meth K C m f ∧ FnOk P w K mg base L2.CX0 k f fd ps sp ∧ Binds K fd ps []
/-- __init__ of the class at C as the top has written it -/
structure Di (K : PySem.W.Frag) (mg : Str → Option Value) (x : Str) (qual : Str) (C : Addr) (st : Stmt) (ps : List Str) : Prop where
  ex : ∃ f fd, Fun K "__init__" qual st f fd ∧ Mk K C f ∧ mg x = some (.ref C) ∧ Binds K fd ps []
structure Dm (K : PySem.W.Frag) (C : Addr) (m qual : Str) (st : Stmt) (ps : List Str) : Prop where
  ex : ∃ f fd, Fun K m qual st f fd ∧ Cls K C ∧ Meth K C m f ∧ Binds K fd ps []
section
variable {P : Program} {w : World} {K : PySem.W.Frag} {mg : Str → Option Value} {base : Heap}
theorem Di.ok {x qual : Str} {C : Addr} {st : Stmt} {N ps : List Str} {k : Nat} {sp : Sp} (D : Di K mg x qual C st ps) (S : FnScope N ps (defScope st)) (len : ∀ vs H Q E, sp vs H Q E → vs.length = ps.length)
    (hbody : ∀ (f : Addr) (cdv : Value) (A : Around) (outer : List Env) (s : Shared) (H : Hp) (vs : List V) (Q : VK) (E : XK), Room k (A.deeper (envOfC qual (defScope st) s.heap.objs.size f cdv)) → sp vs H Q E →
      ∃ t, PSs (cxOf L2.CX0 P w K mg base N qual (defScope st) f cdv A outer s H E).nox (defBody st) t ∧ t { nx := fun _ H' => Q .non H', rt := Q } (start N vs) H) : Md P w K mg base (k + 1) x C sp := by
  obtain ⟨f, fd, F, M, m, b⟩ := D.ex
  exact ⟨f, fd, ps, M, F.ok S len (hbody f), m, b⟩
theorem Dm.ok {m qual : Str} {C : Addr} {st : Stmt} {N ps : List Str} {k : Nat} {sp : Sp} (D : Dm K C m qual st ps) (S : FnScope N ps (defScope st)) (len : ∀ vs H Q E, sp vs H Q E → vs.length = ps.length)
    (hbody : ∀ (f : Addr) (cdv : Value) (A : Around) (outer : List Env) (s : Shared) (H : Hp) (vs : List V) (Q : VK) (E : XK), Room k (A.deeper (envOfC qual (defScope st) s.heap.objs.size f cdv)) → sp vs H Q E →
      ∃ t, PSs (cxOf L2.CX0 P w K mg base N qual (defScope st) f cdv A outer s H E).nox (defBody st) t ∧ t { nx := fun _ H' => Q .non H', rt := Q } (start N vs) H) : Td P w K mg base (k + 1) C m sp := by
  obtain ⟨f, fd, F, c, me, b⟩ := D.ex
  exact ⟨f, fd, ps, c, me, F.ok S len (hbody f), b⟩
end
section
variable {X : Cx} {p pos apos : Pos} {e o : Expr} {es : List Expr} {x m : Str} {k j : Nat} {C : Addr} {sp : Sp} {t : TA} {ta : TE} {pl : Sem Bool}
theorem pe_mak (c : Md X.prog X.w X.K X.mg X.base k x C sp) (hr : Room j X.A) (hk : k + 1 ≤ j) (hg : Gl X x) (ha : PA X (e :: es) t)
    (hdb : (x == ("__debug__" : Str)) = false := by decide) (he : starEach (e :: es) X.env = (false, eval e X.env) :: starEach es X.env := by rfl) (hpl : (backTo pos (starEach es X.env)).any (·.1) = false := by rfl) :
    PE X (.Call (.Name x p) (e :: es) [] pos) (tMake C sp [] L2.E0 t) := by
  obtain ⟨f, fd, ps, M, F, hm, b⟩ := c.ex
  exact pe_make M F (hr.mono hk) hg hm b .nil pass0 ha hdb he hpl
theorem pe_met (c : Td X.prog X.w X.K X.mg X.base k C m sp) (hr : Room j X.A) (hk : k ≤ j) (he : PE X o ta) (ha : PA X (e :: es) t)
    (hst : starEach (e :: es) X.env = (false, eval e X.env) :: starEach es X.env := by rfl) (hpl : (backTo pos (starEach es X.env)).any (·.1) = false := by rfl)
    (ht : eval (.Call (.Attribute o m apos) (e :: es) [] pos) X.env = (do
      let ov ← eval o X.env
      standAt apos.atName
      let (f, first) ← holding [ov] (getMethod ov m pl)
      callWith pos f first (backTo pos (starEach (e :: es) X.env)) (backToKw pos (keywordEach [] X.env))) := by rfl) :
    PE X (.Call (.Attribute o m apos) (e :: es) [] pos) (tMeth C m sp [] L2.E0 ta t) := by
  obtain ⟨f, fd, ps, cl, me, F, b⟩ := c.ex
  exact pe_meth he cl me F (hr.mono hk) b .nil pass0 ha hst hpl ht
end
section
variable {K : PySem.W.Frag} {σ : L2.St} {H : Hp} {ta tb tc tv : TE} {x y v : V} {D : Ends} {tz : TS} {a C dx : Addr} {f : Str} {fs : List (Str × V)}
theorem s_fldE (h : Ev tv σ H y) (ha : Ev ta σ H (.ref a)) (ho : H a = some (.ins C dx fs)) (c : Cls K C) (n : NoAttr K C f) (hl : fs.length < 1000) (k : ∀ H1, Ex H H1 → D.nx σ (upd H1 a (.ins C dx (putF f y fs)))) : sFld K ta tv f D σ H :=
  h H (Ex.refl H) _ fun H1 e1 => ha H1 e1 _ fun H2 e2 => ⟨a, C, dx, fs, rfl, e2 a _ (e1 a _ ho), c, n, hl, k H2 (e1.trans e2)⟩
theorem q_fldE (h : Ev tv σ H y) (ha : Ev ta σ H (.ref a)) (ho : H a = some (.ins C dx fs)) (c : Cls K C) (n : NoAttr K C f) (hl : fs.length < 1000) (k : ∀ H1, Ex H H1 → tz D σ (upd H1 a (.ins C dx (putF f y fs)))) : tSeq (sFld K ta tv f) tz D σ H :=
  s_fldE (D := { D with nx := tz D }) h ha ho c n hl k
theorem s_fldU {xs : List V} (h : EvU tv σ H xs) (ha : Ev ta σ H (.ref a)) (ho : H a = some (.ins C dx fs)) (c : Cls K C) (n : NoAttr K C f) (hl : fs.length < 1000) (k : ∀ p H1, H p = none → Ex H H1 → H1 p = some (.tup xs) → D.nx σ (upd H1 a (.ins C dx (putF f (.ref p) fs)))) : sFld K ta tv f D σ H :=
  h H (Ex.refl H) _ fun p H1 hp e1 h1 => ha H1 e1 _ fun H2 e2 => ⟨a, C, dx, fs, rfl, e2 a _ (e1 a _ ho), c, n, hl, k p H2 hp (e1.trans e2) (e2 p _ h1)⟩
theorem ev_fld (ha : Ev ta σ H (.ref a)) (ho : H a = some (.ins C dx fs)) (c : Cls K C) (n : NoAttr K C f) (hl : fs.lookup f = some v) : Ev (tFld K ta f) σ H v := fun H1 e Q q =>
  ha H1 e _ fun H2 e2 => ⟨a, C, dx, fs, v, rfl, e2 a _ (e a _ ho), c, n, hl, q H2 e2⟩
/-- f(x, [..], z), the second argument a new list -/
theorem ev_call3L {sp : Sp} {E : XK} {ys : List V} {z : V} (ha : Ev ta σ H x) (hb : EvL tb σ H ys) (hc : ∀ H1, Ex H H1 → Ev tc σ H1 z) (hs : ∀ b H1, Ex H H1 → H1 b = some (.lst ys) → ∀ Q : VK, (∀ H2, Ex H1 H2 → Q v H2) → ∀ E, sp [x, .ref b, z] H1 Q E) :
    Ev (tCall sp [] E (tCons ta (tCons tb (tCons tc tNil)))) σ H v := fun H1 e Q q =>
  ha H1 e _ fun H2 e2 => hb H2 (e.trans e2) _ fun b H3 nb e3 h3 => hc H3 ((e.trans e2).trans e3) H3 (Ex.refl H3) _ fun H4 e4 => hs b H4 (((e.trans e2).trans e3).trans e4) (e4 b _ h3) Q (fun H5 e5 => q H5 (((e2.trans e3).trans e4).trans e5)) E
/-- f(x, [..]) -/
theorem ev_call2L {sp : Sp} {E : XK} {ys : List V} (ha : Ev ta σ H x) (hb : EvL tb σ H ys) (hs : ∀ b H1, Ex H H1 → H1 b = some (.lst ys) → ∀ Q : VK, (∀ H2, Ex H1 H2 → Q v H2) → ∀ E, sp [x, .ref b] H1 Q E) :
    Ev (tCall sp [] E (tCons ta (tCons tb tNil))) σ H v := fun H1 e Q q =>
  ha H1 e _ fun H2 e2 => hb H2 (e.trans e2) _ fun b H3 nb e3 h3 => hs b H3 ((e.trans e2).trans e3) h3 Q (fun H5 e5 => q H5 ((e2.trans e3).trans e5)) E
theorem eu_call {sp : Sp} {E : XK} {t : TA} {vs xs : List V} (h : EvA t σ H vs) (hs : ∀ H1, Ex H H1 → ∀ Q : VK, (∀ p H2, H1 p = none → Ex H1 H2 → H2 p = some (.tup xs) → Q (.ref p) H2) → ∀ E, sp (vs ++ []) H1 Q E) : EvU (tCall sp [] E t) σ H xs := fun H1 e Q q =>
  h H1 e _ fun H2 e2 => hs H2 (e.trans e2) Q (fun p H3 hp e3 h3 => q p H3 (fresh_back e2 hp) (e2.trans e3) h3) E
end
end My
/-! mirrors of the program's defs and of the law's, over lists of ints -/
namespace Mi
def sizeI (p : Int) : Nat → Int
  | 0 => 1
  | n + 1 => sizeI p n * p
def figs (p : Int) : Nat → Int → List Int
  | 0, _ => []
  | c + 1, n => n % p :: figs p c (n / p)
def divs (p : Int) : Nat → Int → Int
  | 0, n => n
  | c + 1, n => divs p c n / p
theorem divs_succ (p : Int) : ∀ (c : Nat) (n : Int), divs p c (n / p) = divs p (c + 1) n
  | 0, _ => rfl
  | c + 1, n => by show divs p c (n / p) / p = _; rw [divs_succ p c n]; rfl
theorem figs_snoc (p : Int) : ∀ (c : Nat) (n : Int), figs p (c + 1) n = figs p c n ++ [divs p c n % p]
  | 0, _ => rfl
  | c + 1, n => by
    show n % p :: figs p (c + 1) (n / p) = n % p :: (figs p c (n / p) ++ _)
    rw [figs_snoc p c (n / p), divs_succ]
theorem figs_len (p : Int) : ∀ (c : Nat) (n : Int), (figs p c n).length = c
  | 0, _ => rfl
  | c + 1, n => by show (figs p c (n / p)).length + 1 = c + 1; rw [figs_len]
theorem figs_mem {p : Int} (hp : 0 < p) : ∀ (c : Nat) (n : Int), ∀ x ∈ figs p c n, 0 ≤ x ∧ x < p
  | 0, _, x, h => by cases h
  | c + 1, n, x, h => by
    rcases List.mem_cons.mp h with e | e
    · subst e; exact ⟨Int.emod_nonneg _ (by omega), Int.emod_lt_of_pos _ hp⟩
    · exact figs_mem hp c _ x e
def num (p : Int) : List Int → Int
  | [] => 0
  | f :: r => num p r * p + f
end Mi
namespace Mi
def trial (n : Int) : Nat → Int → Bool
  | 0, _ => true
  | f + 1, d => if d * d ≤ n then (if n % d = 0 then false else trial n f (d + 1)) else true
def isPr (n : Int) : Bool := if n < 2 then false else trial n 1001 2
end Mi
namespace Mi
def isField (p k : Int) : Bool :=
  if k = 1 then (decide (p ≤ 1000000) && isPr p)
  else if ((decide (k < 2) || decide (12 < k)) || decide (97 < p)) = true then false else (isPr p && decide (sizeI p k.toNat ≤ 1000000000000000))
theorem isPr_two {n : Int} (h : isPr n = true) : 2 ≤ n := by
  unfold isPr at h
  split at h
  · cases h
  · omega
theorem isField_b {p k : Int} (h : isField p k = true) : 2 ≤ p ∧ p ≤ 1000000 ∧ 1 ≤ k ∧ k ≤ 12 := by
  unfold isField at h
  split at h
  · rw [Bool.and_eq_true, decide_eq_true_eq] at h
    have := isPr_two h.2
    omega
  · split at h
    · cases h
    · rename_i h1 h2
      rw [Bool.and_eq_true] at h
      have := isPr_two h.1
      simp only [Bool.or_eq_true, decide_eq_true_eq, not_or] at h2
      omega
theorem sizeI_pos {p : Int} (hp : 0 < p) : ∀ n : Nat, 0 < sizeI p n
  | 0 => by show (0 : Int) < 1; decide
  | n + 1 => Int.mul_pos (sizeI_pos hp n) hp
def wm (p f : Int) : Nat → Int → Int → Int
  | 0, _, _ => 0
  | n + 1, a, b => if 0 < a ∨ 0 < b then (a % p + f * (b % p)) % p + p * wm p f n (a / p) (b / p) else 0
end Mi
namespace Mi
def euc : Nat → Int → Int → Int → Int → Int
  | 0, _, _, bf, _ => bf
  | n + 1, b, r, bf, f => if 0 < r then euc n r (b - b / r * r) f (bf - b / r * f) else bf
def invM (x m : Int) : Int := euc m.toNat m (x % m) 0 1 % m
def dropHZ : List Int → List Int
  | [] => []
  | x :: r => if (dropHZ r).isEmpty && x == 0 then [] else x :: dropHZ r
theorem dropHZ_zero : ∀ l : List Int, dropHZ (l ++ [0]) = dropHZ l
  | [] => rfl
  | x :: r => by show (if (dropHZ (r ++ [0])).isEmpty && x == 0 then [] else x :: dropHZ (r ++ [0])) = _; rw [dropHZ_zero r]; rfl
theorem dropHZ_last {y : Int} (hy : y ≠ 0) : ∀ l : List Int, dropHZ (l ++ [y]) = l ++ [y]
  | [] => by show (if true && y == 0 then [] else [y]) = [y]; rw [if_neg (by simp [hy])]
  | x :: r => by
    show (if (dropHZ (r ++ [y])).isEmpty && x == 0 then [] else x :: dropHZ (r ++ [y])) = _
    rw [dropHZ_last hy r, if_neg (by simp)]; rfl
theorem dropHZ_len : ∀ l : List Int, (dropHZ l).length ≤ l.length
  | [] => Nat.le_refl _
  | x :: r => by
    show (if (dropHZ r).isEmpty && x == 0 then [] else x :: dropHZ r).length ≤ _
    split
    · exact Nat.zero_le _
    · exact Nat.succ_le_succ (dropHZ_len r)
theorem dropHZ_mem : ∀ (l : List Int) (x : Int), x ∈ dropHZ l → x ∈ l
  | [], _, h => h
  | y :: r, x, h => by
    have h' : x ∈ (if (dropHZ r).isEmpty && y == 0 then [] else y :: dropHZ r) := h
    split at h'
    · cases h'
    · rcases List.mem_cons.mp h' with e | e
      · exact List.mem_cons.mpr (.inl e)
      · exact List.mem_cons_of_mem _ (dropHZ_mem r x e)
/-- the row less fac times other, from a place on -/
def subL (p fac : Int) : Nat → List Int → List Int → List Int
  | _, [], rest => rest
  | pl, o :: os, rest => subL p fac (pl + 1) os (rest.set pl ((rest.getD pl 0 - fac * o) % p))
theorem subL_len (p fac : Int) : ∀ (os : List Int) (pl : Nat) (rest : List Int), (subL p fac pl os rest).length = rest.length
  | [], _, _ => rfl
  | o :: os, pl, rest => by rw [subL, subL_len p fac os, List.length_set]
theorem subL_snoc (p fac : Int) : ∀ (os : List Int) (o : Int) (pl : Nat) (rest : List Int), subL p fac pl (os ++ [o]) rest = (subL p fac pl os rest).set (pl + os.length) (((subL p fac pl os rest).getD (pl + os.length) 0 - fac * o) % p)
  | [], _, _, _ => rfl
  | o' :: os, o, pl, rest => by
    rw [List.cons_append, subL, subL_snoc p fac os]
    show _ = (subL p fac (pl + 1) os _).set (pl + (os.length + 1)) _
    rw [show pl + 1 + os.length = pl + (os.length + 1) by omega]; rfl
/-- the remainder's row: fuel, back, other, rest -/
def remR (p back : Int) (other : List Int) : Nat → List Int → List Int
  | 0, rest => rest
  | n + 1, rest => if other.length ≤ rest.length then remR p back other n ((subL p (rest.getD (rest.length - 1) 0 * back % p) (rest.length - other.length) other rest).dropLast) else rest
def remB (p : Int) (one other : List Int) : List Int := dropHZ (remR p (invM (other.getD (other.length - 1) 0) p) other (one.length + 1) one)
theorem remR_len (p back : Int) (other : List Int) (h0 : other ≠ []) : ∀ (n : Nat) (rest : List Int), rest.length < n + other.length → (remR p back other n rest).length < other.length
  | 0, rest, h => by show rest.length < _; omega
  | n + 1, rest, h => by
    have h1 : 0 < other.length := List.length_pos_iff.mpr h0
    rw [remR]
    split
    · refine remR_len p back other h0 n _ ?_
      rw [List.length_dropLast, subL_len]; omega
    · omega
theorem remB_len (p : Int) (one other : List Int) (h0 : other ≠ []) : (remB p one other).length < other.length :=
  Nat.lt_of_le_of_lt (dropHZ_len _) (remR_len p _ other h0 _ _ (by have := List.length_pos_iff.mpr h0; omega))
def gcdL (p : Int) : Nat → List Int → List Int → List Int
  | 0, one, _ => one
  | n + 1, one, other => if other.isEmpty then one else gcdL p n other (remB p one other)
def commonB (p : Int) (one other : List Int) : Bool := decide (1 < ((gcdL p (other.length + 1) (dropHZ one) (dropHZ other)).length : Int))
end Mi
namespace Mi
def addL (f : Int) : Nat → List Int → List Int → List Int
  | _, [], rest => rest
  | pl, o :: os, rest => addL f (pl + 1) os (rest.set pl (rest.getD pl 0 + f * o))
theorem addL_len (f : Int) : ∀ (os : List Int) (pl : Nat) (rest : List Int), (addL f pl os rest).length = rest.length
  | [], _, _ => rfl
  | o :: os, pl, rest => by rw [addL, addL_len f os, List.length_set]
theorem addL_snoc (f : Int) : ∀ (os : List Int) (o : Int) (pl : Nat) (rest : List Int), addL f pl (os ++ [o]) rest = (addL f pl os rest).set (pl + os.length) ((addL f pl os rest).getD (pl + os.length) 0 + f * o)
  | [], _, _, _ => rfl
  | o' :: os, o, pl, rest => by
    rw [List.cons_append, addL, addL_snoc f os]
    show _ = (addL f (pl + 1) os _).set (pl + (os.length + 1)) _
    rw [show pl + 1 + os.length = pl + (os.length + 1) by omega]; rfl
def mulA (other : List Int) : Nat → List Int → List Int → List Int
  | _, [], rest => rest
  | pl, f :: fs, rest => mulA other (pl + 1) fs (if 0 < f then addL f pl other rest else rest)
theorem mulA_len (other : List Int) : ∀ (fs : List Int) (pl : Nat) (rest : List Int), (mulA other pl fs rest).length = rest.length
  | [], _, _ => rfl
  | f :: fs, pl, rest => by
    rw [mulA, mulA_len other fs]
    split
    · exact addL_len _ _ _ _
    · rfl
theorem mulA_snoc (other : List Int) : ∀ (fs : List Int) (f : Int) (pl : Nat) (rest : List Int), mulA other pl (fs ++ [f]) rest = if 0 < f then addL f (pl + fs.length) other (mulA other pl fs rest) else mulA other pl fs rest
  | [], _, _, _ => rfl
  | f' :: fs, f, pl, rest => by
    rw [List.cons_append, mulA, mulA_snoc other fs]
    show _ = if 0 < f then addL f (pl + (fs.length + 1)) other (mulA other (pl + 1) fs _) else _
    rw [show pl + 1 + fs.length = pl + (fs.length + 1) by omega]; rfl
def lowP : Nat → List Int → List (Nat × Int)
  | _, [] => []
  | i, f :: fs => if 0 < f then (i, f) :: lowP (i + 1) fs else lowP (i + 1) fs
theorem lowP_snoc : ∀ (fs : List Int) (f : Int) (i : Nat), lowP i (fs ++ [f]) = lowP i fs ++ (if 0 < f then [(i + fs.length, f)] else [])
  | [], f, i => by show (if 0 < f then [(i, f)] else []) = [] ++ (if 0 < f then [(i + 0, f)] else []); rfl
  | f' :: fs, f, i => by
    rw [List.cons_append, lowP, lowP_snoc fs, lowP]
    rw [show i + 1 + fs.length = i + (f' :: fs).length by rw [List.length_cons]; omega]
    split
    · rfl
    · rfl
theorem lowP_mem : ∀ (fs : List Int) (i : Nat), ∀ q ∈ lowP i fs, q.1 < i + fs.length
  | [], _, _, h => by cases h
  | f :: fs, i, q, h => by
    rw [lowP] at h
    rw [List.length_cons]
    split at h
    · rcases List.mem_cons.mp h with e | e
      · rw [e]; show i < _; omega
      · have := lowP_mem fs (i + 1) q e; omega
    · have := lowP_mem fs (i + 1) q h; omega
def subP (lead : Int) (place : Nat) : List (Nat × Int) → List Int → List Int
  | [], rest => rest
  | q :: ps, rest => subP lead place ps (rest.set (place + q.1) (rest.getD (place + q.1) 0 - lead * q.2))
theorem subP_len (lead : Int) (place : Nat) : ∀ (ps : List (Nat × Int)) (rest : List Int), (subP lead place ps rest).length = rest.length
  | [], _ => rfl
  | q :: ps, rest => by rw [subP, subP_len lead place ps, List.length_set]
theorem subP_snoc (lead : Int) (place : Nat) : ∀ (ps : List (Nat × Int)) (q : Nat × Int) (rest : List Int), subP lead place (ps ++ [q]) rest = (subP lead place ps rest).set (place + q.1) ((subP lead place ps rest).getD (place + q.1) 0 - lead * q.2)
  | [], _, _ => rfl
  | q' :: ps, q, rest => by rw [List.cons_append, subP, subP_snoc lead place ps]; rfl
def redL (p : Int) (d : Nat) (low : List (Nat × Int)) : Nat → List Int → List Int
  | 0, rest => rest
  | n + 1, rest => if d < rest.length then redL p d low n (subP (rest.getD (rest.length - 1) 0 % p) (rest.length - 1 - d) low rest.dropLast) else rest
theorem redL_len (p : Int) (d : Nat) (low : List (Nat × Int)) : ∀ (n : Nat) (rest : List Int), d ≤ rest.length → rest.length ≤ n + d → (redL p d low n rest).length = d
  | 0, rest, h1, h2 => by show rest.length = d; omega
  | n + 1, rest, h1, h2 => by
    rw [redL]
    split
    · refine redL_len p d low n _ ?_ ?_
      · rw [subP_len, List.length_dropLast]; omega
      · rw [subP_len, List.length_dropLast]; omega
    · omega
def mulM (p : Int) (lower one other : List Int) : List Int :=
  (redL p lower.length (lowP 0 lower) (2 * lower.length) (mulA other 0 one (List.replicate (2 * lower.length - 1) 0))).map (· % p)
theorem mulM_len {p : Int} {lower one other : List Int} (h : 1 ≤ lower.length) : (mulM p lower one other).length = lower.length := by
  unfold mulM
  rw [List.length_map, redL_len]
  · rw [mulA_len, List.length_replicate]; omega
  · rw [mulA_len, List.length_replicate]; omega
theorem mulM_mem {p : Int} (hp : 0 < p) {lower one other : List Int} : ∀ x ∈ mulM p lower one other, 0 ≤ x ∧ x < p := by
  intro x hx
  unfold mulM at hx
  obtain ⟨y, _, rfl⟩ := List.mem_map.mp hx
  exact ⟨Int.emod_nonneg _ (by omega), Int.emod_lt_of_pos _ hp⟩
def oneL (d : Nat) : List Int := 1 :: List.replicate (d - 1) 0
def powL (p : Int) (lower : List Int) : Nat → List Int → List Int → Int → List Int
  | 0, r, _, _ => r
  | n + 1, r, f, t => if 0 < t then powL p lower n (if t % 2 = 1 then mulM p lower r f else r) (if 0 < t / 2 then mulM p lower f f else f) (t / 2) else r
def raisedL (p : Int) (lower fs : List Int) (t : Int) : List Int := powL p lower 64 (oneL lower.length) fs t
theorem powL_ok {p : Int} (hp : 0 < p) {lower : List Int} (hl : 1 ≤ lower.length) : ∀ (n : Nat) (r f : List Int) (t : Int), r.length = lower.length → (∀ x ∈ r, 0 ≤ x ∧ x < p) →
    (powL p lower n r f t).length = lower.length ∧ ∀ x ∈ powL p lower n r f t, 0 ≤ x ∧ x < p
  | 0, r, f, t, h1, h2 => ⟨h1, h2⟩
  | n + 1, r, f, t, h1, h2 => by
    rw [powL]
    split
    · refine powL_ok hp hl n _ _ _ ?_ ?_
      · split
        · exact mulM_len hl
        · exact h1
      · split
        · exact mulM_mem hp
        · exact h2
    · exact ⟨h1, h2⟩
theorem oneL_ok {p : Int} (hp : 2 ≤ p) {d : Nat} (hd : 1 ≤ d) : (oneL d).length = d ∧ ∀ x ∈ oneL d, 0 ≤ x ∧ x < p := by
  refine ⟨by unfold oneL; rw [List.length_cons, List.length_replicate]; omega, fun x hx => ?_⟩
  rcases List.mem_cons.mp hx with e | e
  · omega
  · have := List.eq_of_mem_replicate e; omega
theorem raisedL_ok {p : Int} (hp : 2 ≤ p) {lower fs : List Int} {t : Int} (hl : 1 ≤ lower.length) : (raisedL p lower fs t).length = lower.length ∧ ∀ x ∈ raisedL p lower fs t, 0 ≤ x ∧ x < p :=
  powL_ok (by omega) hl _ _ _ _ (oneL_ok hp hl).1 (oneL_ok hp hl).2
def unkL (d : Nat) : List Int := 0 :: 1 :: List.replicate (d - 2) 0
def chgL (p : Int) (a b : List Int) : List Int := List.zipWith (fun x y => (x - y) % p) a b
def irrL (p : Int) (lower : List Int) : Nat → List Int → Bool
  | 0, _ => true
  | n + 1, r => if commonB p (lower ++ [1]) (chgL p (raisedL p lower r p) (unkL lower.length)) then false else irrL p lower n (raisedL p lower r p)
def irr (p : Int) (lower : List Int) : Bool := if lower.getD 0 0 = 0 then false else irrL p lower (lower.length / 2) (unkL lower.length)
end Mi
namespace Mi
/-- the field's polynomial, as the search finds it -/
def FieldP (p k : Int) (lo : List Int) : Prop := (k = 1 ∧ lo = [0]) ∨ (2 ≤ k ∧ ∃ N : Nat, lo = figs p k.toNat (N : Int) ∧ irr p lo = true ∧ ∀ n : Nat, n < N → irr p (figs p k.toNat (n : Int)) = false)
theorem FieldP.len {p k : Int} {lo : List Int} (h : FieldP p k lo) : lo.length = k.toNat := by
  rcases h with ⟨h1, h2⟩ | ⟨h1, N, h2, _⟩
  · rw [h1, h2]; rfl
  · rw [h2, figs_len]
end Mi
namespace Mi
theorem size64 {p : Int} (h : p ≤ 1000000) : p < sizeI 2 64 := by
  have e : sizeI 2 64 = 18446744073709551616 := by decide +kernel
  omega
end Mi
namespace Mi
/-! ### the law's own reckoning -/
def lrest (p : Int) (lower : List Int) : Nat → List Int → List Int
  | 0, row => row
  | n + 1, row => lrest p lower n (if lower.length < row.length then subL p (row.getD (row.length - 1) 0) (row.length - 1 - lower.length) lower row.dropLast else row)
def lawRest (p : Int) (figures lower : List Int) : List Int := lrest p lower figures.length figures ++ List.replicate (lower.length - (lrest p lower figures.length figures).length) 0
def addM (p f : Int) : Nat → List Int → List Int → List Int
  | _, [], rest => rest
  | pl, o :: os, rest => addM p f (pl + 1) os (rest.set pl ((rest.getD pl 0 + f * o) % p))
theorem addM_len (p f : Int) : ∀ (os : List Int) (pl : Nat) (rest : List Int), (addM p f pl os rest).length = rest.length
  | [], _, _ => rfl
  | o :: os, pl, rest => by rw [addM, addM_len p f os, List.length_set]
theorem addM_snoc (p f : Int) : ∀ (os : List Int) (o : Int) (pl : Nat) (rest : List Int), addM p f pl (os ++ [o]) rest = (addM p f pl os rest).set (pl + os.length) (((addM p f pl os rest).getD (pl + os.length) 0 + f * o) % p)
  | [], _, _, _ => rfl
  | o' :: os, o, pl, rest => by
    rw [List.cons_append, addM, addM_snoc p f os]
    show _ = (addM p f (pl + 1) os _).set (pl + (os.length + 1)) _
    rw [show pl + 1 + os.length = pl + (os.length + 1) by omega]; rfl
def lmul (p : Int) (other : List Int) : Nat → List Int → List Int → List Int
  | _, [], rest => rest
  | pl, f :: fs, rest => lmul p other (pl + 1) fs (addM p f pl other rest)
theorem lmul_len (p : Int) (other : List Int) : ∀ (fs : List Int) (pl : Nat) (rest : List Int), (lmul p other pl fs rest).length = rest.length
  | [], _, _ => rfl
  | f :: fs, pl, rest => by rw [lmul, lmul_len p other fs, addM_len]
theorem lmul_snoc (p : Int) (other : List Int) : ∀ (fs : List Int) (f : Int) (pl : Nat) (rest : List Int), lmul p other pl (fs ++ [f]) rest = addM p f (pl + fs.length) other (lmul p other pl fs rest)
  | [], _, _, _ => rfl
  | f' :: fs, f, pl, rest => by
    rw [List.cons_append, lmul, lmul_snoc p other fs]
    show _ = addM p f (pl + (fs.length + 1)) other (lmul p other (pl + 1) fs _)
    rw [show pl + 1 + fs.length = pl + (fs.length + 1) by omega]
def lawTimes (p : Int) (lower : List Int) (a b : Int) : Int :=
  num p (lawRest p (lmul p (figs p lower.length b) 0 (figs p lower.length a) (List.replicate (2 * lower.length - 1) 0)) lower)
def lawPlus (p : Int) (d : Nat) (a b : Int) : Int := num p (List.zipWith (fun x y => (x + y) % p) (figs p d a) (figs p d b))
/-- the greatest of a list -/
def maxI : List Int → Int
  | [] => 0
  | [x] => x
  | x :: y :: r => if x ≤ maxI (y :: r) then maxI (y :: r) else x
theorem maxI_ok : ∀ (l : List Int), l ≠ [] → maxI l ∈ l ∧ ∀ y ∈ l, y ≤ maxI l
  | [], h => absurd rfl h
  | [x], _ => ⟨List.mem_singleton.mpr rfl, fun y hy => by rw [List.mem_singleton.mp hy]; exact Int.le_refl _⟩
  | x :: y :: r, _ => by
    have ih := maxI_ok (y :: r) (List.cons_ne_nil _ _)
    show (if x ≤ maxI (y :: r) then maxI (y :: r) else x) ∈ _ ∧ ∀ z ∈ _, z ≤ (if x ≤ maxI (y :: r) then maxI (y :: r) else x)
    by_cases h : x ≤ maxI (y :: r)
    · rw [if_pos h]
      refine ⟨List.mem_cons_of_mem _ ih.1, fun z hz => ?_⟩
      rcases List.mem_cons.mp hz with e | e
      · rw [e]; exact h
      · exact ih.2 z e
    · rw [if_neg h]
      refine ⟨List.mem_cons_self .., fun z hz => ?_⟩
      rcases List.mem_cons.mp hz with e | e
      · rw [e]; exact Int.le_refl _
      · have := ih.2 z e; omega
theorem maxI_eq {l : List Int} {m : Int} (h1 : m ∈ l) (h2 : ∀ y ∈ l, y ≤ m) : m = maxI l := by
  have ih := maxI_ok l (fun e => by rw [e] at h1; cases h1)
  have a := h2 _ ih.1
  have b := ih.2 _ h1
  omega
/-- whole, told by the others below a number -/
def wholeO (p : Int) (lower : List Int) (d : Nat) : Nat → Bool → Bool
  | 0, w => w
  | n + 1, w => (wholeO p lower d n w) && !decide (maxI (lawRest p (lower ++ [1]) (figs p d (n : Int))) = 0)
def wholeD (p : Int) (lower : List Int) : Nat → Bool
  | 0 => true
  | d + 1 => wholeO p lower (d + 1) (sizeI p (d + 1)).toNat (wholeD p lower d)
def lowerW (p : Int) (k : Nat) (n : Int) : Bool := wholeD p (figs p k n) (k / 2)
/-- the law's polynomial -/
def LowerP (p k : Int) (lo : List Int) : Prop := ∃ N : Nat, (N : Int) < sizeI p k.toNat ∧ lo = figs p k.toNat (N : Int) ∧ lowerW p k.toNat (N : Int) = true ∧ ∀ n : Nat, n < N → lowerW p k.toNat (n : Int) = false
end Mi
namespace Mi
theorem pos_mod {p x : Int} (hp : 0 < p) : 0 ≤ x % p ∧ x % p < p := ⟨Int.emod_nonneg _ (by omega), Int.emod_lt_of_pos _ hp⟩
theorem digit_mod {p x w : Int} (hx : 0 ≤ x ∧ x < p) : (x + p * w) % p = x := by
  rw [Int.add_mul_emod_self_left, Int.emod_eq_of_lt hx.1 hx.2]
theorem digit_div {p x w : Int} (hx : 0 ≤ x ∧ x < p) : (x + p * w) / p = w := by
  rw [Int.add_mul_ediv_left _ _ (by omega), Int.ediv_eq_zero_of_lt hx.1 hx.2, Int.zero_add]
theorem wm_zero (p f : Int) : ∀ d, wm p f d 0 0 = 0
  | 0 => rfl
  | d + 1 => by rw [wm, if_neg (by omega)]
theorem wm_num {p f : Int} (hp : 2 ≤ p) : ∀ (d : Nat) (a b : Int), 0 ≤ a → 0 ≤ b → wm p f d a b = num p (List.zipWith (fun x y => (x + f * y) % p) (figs p d a) (figs p d b))
  | 0, _, _, _, _ => rfl
  | d + 1, a, b, ha, hb => by
    show _ = num p (List.zipWith _ (figs p d (a / p)) (figs p d (b / p))) * p + (a % p + f * (b % p)) % p
    rw [← wm_num hp d (a / p) (b / p) (Int.ediv_nonneg ha (by omega)) (Int.ediv_nonneg hb (by omega)), wm]
    split
    · rw [Int.mul_comm p, Int.add_comm]
    · obtain rfl : a = 0 := by omega
      obtain rfl : b = 0 := by omega
      rw [Int.zero_ediv, wm_zero, Int.zero_emod, Int.mul_zero, Int.add_zero, Int.zero_mul, Int.zero_emod]; rfl
theorem num_lt {p : Int} (hp : 2 ≤ p) : ∀ l : List Int, (∀ x ∈ l, 0 ≤ x ∧ x < p) → 0 ≤ num p l ∧ num p l < sizeI p l.length
  | [], _ => ⟨Int.le_refl _, by show (0 : Int) < 1; decide⟩
  | x :: r, h => by
    have ih := num_lt hp r fun y hy => h y (List.mem_cons_of_mem _ hy)
    have hx := h x (List.mem_cons_self ..)
    show 0 ≤ num p r * p + x ∧ num p r * p + x < sizeI p r.length * p
    have h1 : 0 ≤ num p r * p := Int.mul_nonneg ih.1 (by omega)
    have h2 : (num p r + 1) * p ≤ sizeI p r.length * p := Int.mul_le_mul_of_nonneg_right (by omega) (by omega)
    rw [Int.add_mul, Int.one_mul] at h2
    omega
theorem num_figs {p : Int} (hp : 2 ≤ p) : ∀ (d : Nat) (a : Int), 0 ≤ a → a < sizeI p d → num p (figs p d a) = a
  | 0, a, h0, h1 => by
    have h2 : sizeI p 0 = 1 := rfl
    rw [h2] at h1
    show (0 : Int) = a
    omega
  | d + 1, a, h0, h1 => by
    show num p (figs p d (a / p)) * p + a % p = a
    rw [num_figs hp d (a / p) (Int.ediv_nonneg h0 (by omega)) (Int.ediv_lt_of_lt_mul (by omega) h1)]
    have := Int.mul_ediv_add_emod a p
    rw [Int.mul_comm]; exact this
theorem figs_num {p : Int} (hp : 2 ≤ p) : ∀ l : List Int, (∀ x ∈ l, 0 ≤ x ∧ x < p) → figs p l.length (num p l) = l
  | [], _ => rfl
  | x :: r, h => by
    have hx := h x (List.mem_cons_self ..)
    show (num p r * p + x) % p :: figs p r.length ((num p r * p + x) / p) = x :: r
    have e : num p r * p + x = x + p * num p r := by rw [Int.mul_comm, Int.add_comm]
    rw [e, digit_mod hx, digit_div hx, figs_num hp r fun y hy => h y (List.mem_cons_of_mem _ hy)]
theorem zip_mem {p : Int} (hp : 0 < p) {g : Int → Int → Int} : ∀ (l m : List Int), ∀ x ∈ List.zipWith (fun x y => g x y % p) l m, 0 ≤ x ∧ x < p
  | [], _, _, h => by simp at h
  | _ :: _, [], _, h => by simp at h
  | a :: l, b :: m, x, h => by
    rw [List.zipWith_cons_cons] at h
    rcases List.mem_cons.mp h with e | e
    · rw [e]; exact pos_mod hp
    · exact zip_mem hp l m x e
theorem figs_wm {p f : Int} (hp : 2 ≤ p) (d : Nat) (a b : Int) (ha : 0 ≤ a) (hb : 0 ≤ b) : figs p d (wm p f d a b) = List.zipWith (fun x y => (x + f * y) % p) (figs p d a) (figs p d b) := by
  rw [wm_num hp d a b ha hb]
  have h := figs_num hp (List.zipWith (fun x y => (x + f * y) % p) (figs p d a) (figs p d b)) (zip_mem (by omega) _ _)
  rw [List.length_zipWith, figs_len, figs_len, Nat.min_self] at h
  exact h
theorem wm_lt {p f : Int} (hp : 2 ≤ p) (d : Nat) (a b : Int) (ha : 0 ≤ a) (hb : 0 ≤ b) : 0 ≤ wm p f d a b ∧ wm p f d a b < sizeI p d := by
  rw [wm_num hp d a b ha hb]
  have h := num_lt hp (List.zipWith (fun x y => (x + f * y) % p) (figs p d a) (figs p d b)) (zip_mem (by omega) _ _)
  rw [List.length_zipWith, figs_len, figs_len, Nat.min_self] at h
  exact h
theorem added_law {p : Int} (hp : 2 ≤ p) (d : Nat) (a b : Int) (ha : 0 ≤ a) (hb : 0 ≤ b) : wm p 1 d a b = lawPlus p d a b := by
  rw [wm_num hp d a b ha hb]
  unfold lawPlus
  congr 2
  funext x y
  rw [Int.one_mul]
theorem plus_comm (p : Int) (d : Nat) (a b : Int) : lawPlus p d a b = lawPlus p d b a := by
  unfold lawPlus
  rw [List.zipWith_comm]
  congr 2
  funext x y
  rw [Int.add_comm]
theorem back_zip {p : Int} (hp : 0 < p) : ∀ (l m : List Int), l.length = m.length → (∀ x ∈ l, 0 ≤ x ∧ x < p) → List.zipWith (fun x y => (x + y) % p) (List.zipWith (fun x y => (x + -1 * y) % p) l m) m = l
  | [], [], _, _ => rfl
  | [], _ :: _, h, _ => by cases h
  | _ :: _, [], h, _ => by cases h
  | x :: l, y :: m, h, hl => by
    have hx := hl x (List.mem_cons_self ..)
    rw [List.zipWith_cons_cons, List.zipWith_cons_cons, back_zip hp l m (Nat.succ.inj h) fun z hz => hl z (List.mem_cons_of_mem _ hz)]
    rw [Int.emod_add_emod, show x + -1 * y + y = x by omega, Int.emod_eq_of_lt hx.1 hx.2]
theorem less_law {p : Int} (hp : 2 ≤ p) (d : Nat) (a b : Int) (ha : 0 ≤ a ∧ a < sizeI p d) (hb : 0 ≤ b) : lawPlus p d (wm p (-1) d a b) b = a := by
  unfold lawPlus
  rw [figs_wm hp d a b ha.1 hb, back_zip (by omega) _ _ (by rw [figs_len, figs_len]) (figs_mem (by omega) _ _)]
  exact num_figs hp d a ha.1 ha.2
/-! ### rows that are alike but for multiples of p -/
def CongL (p : Int) (r s : List Int) : Prop := r.length = s.length ∧ ∀ t : Nat, r.getD t 0 % p = s.getD t 0 % p
theorem getD_set (l : List Int) (i t : Nat) (x : Int) : (l.set i x).getD t 0 = if i = t ∧ t < l.length then x else l.getD t 0 := by
  rw [List.getD_eq_getElem?_getD, List.getD_eq_getElem?_getD, List.getElem?_set]
  by_cases h : i = t
  · subst h
    by_cases h2 : i < l.length
    · simp [h2]
    · simp [h2]
  · simp [h]
theorem CongL.set {p x y : Int} {r s : List Int} (h : CongL p r s) (i : Nat) (e : x % p = y % p) : CongL p (r.set i x) (s.set i y) := by
  refine ⟨by rw [List.length_set, List.length_set]; exact h.1, fun t => ?_⟩
  rw [getD_set, getD_set, h.1]
  split
  · exact e
  · exact h.2 t
theorem CongL.setR {p y : Int} {r s : List Int} (h : CongL p r s) (i : Nat) (e : r.getD i 0 % p = y % p) : CongL p r (s.set i y) := by
  refine ⟨by rw [List.length_set]; exact h.1, fun t => ?_⟩
  rw [getD_set]
  split
  · rename_i hh; rw [← hh.1]; exact e
  · exact h.2 t
theorem CongL.add {p f : Int} : ∀ (os : List Int) (pl : Nat) {r s : List Int}, CongL p r s → CongL p (addL f pl os r) (addM p f pl os s)
  | [], _, _, _, h => h
  | o :: os, pl, r, s, h => by
    rw [addL, addM]
    refine CongL.add os (pl + 1) (h.set pl ?_)
    rw [Int.emod_emod_of_dvd _ (Int.dvd_refl p), ← Int.emod_add_emod, h.2 pl, Int.emod_add_emod]
theorem CongL.add0 {p : Int} : ∀ (os : List Int) (pl : Nat) {r s : List Int}, CongL p r s → CongL p r (addM p 0 pl os s)
  | [], _, _, _, h => h
  | o :: os, pl, r, s, h => by
    rw [addM]
    refine CongL.add0 os (pl + 1) (h.setR pl ?_)
    rw [Int.zero_mul, Int.add_zero, Int.emod_emod_of_dvd _ (Int.dvd_refl p)]
    exact h.2 pl
theorem CongL.mul {p : Int} (other : List Int) : ∀ (fs : List Int) (pl : Nat) {r s : List Int}, (∀ x ∈ fs, 0 ≤ x) → CongL p r s → CongL p (mulA other pl fs r) (lmul p other pl fs s)
  | [], _, _, _, _, h => h
  | f :: fs, pl, r, s, hf, h => by
    rw [mulA, lmul]
    refine CongL.mul other fs (pl + 1) (fun x hx => hf x (List.mem_cons_of_mem _ hx)) ?_
    split
    · exact CongL.add other pl h
    · obtain rfl : f = 0 := by have := hf f (List.mem_cons_self ..); omega
      exact CongL.add0 other pl h
theorem CongL.sub {p lead top : Int} (place : Nat) (hl : lead % p = top % p) : ∀ (fs : List Int) (i : Nat) {r s : List Int}, (∀ x ∈ fs, 0 ≤ x) → CongL p r s → CongL p (subP lead place (lowP i fs) r) (subL p top (place + i) fs s)
  | [], _, _, _, _, h => h
  | f :: fs, i, r, s, hf, h => by
    rw [subL, lowP]
    have hm : ∀ x y : Int, x % p = y % p → (x - lead * f) % p = (y - top * f) % p := fun x y e => by
      rw [Int.sub_emod, e, Int.mul_emod, hl, ← Int.mul_emod, ← Int.sub_emod]
    split
    · rw [subP]
      refine CongL.sub place hl fs (i + 1) (fun x hx => hf x (List.mem_cons_of_mem _ hx)) (h.set (place + i) ?_)
      rw [Int.emod_emod_of_dvd _ (Int.dvd_refl p)]
      exact hm _ _ (h.2 _)
    · obtain rfl : f = 0 := by have := hf f (List.mem_cons_self ..); omega
      refine CongL.sub place hl fs (i + 1) (fun x hx => hf x (List.mem_cons_of_mem _ hx)) (h.setR (place + i) ?_)
      rw [Int.mul_zero, Int.sub_zero, Int.emod_emod_of_dvd _ (Int.dvd_refl p)]
      exact h.2 _
theorem getD_drop (l : List Int) (t : Nat) : l.dropLast.getD t 0 = if t < l.length - 1 then l.getD t 0 else 0 := by
  rw [List.getD_eq_getElem?_getD, List.getD_eq_getElem?_getD, List.getElem?_dropLast]
  split
  · rfl
  · rfl
theorem CongL.drop {p : Int} {r s : List Int} (h : CongL p r s) : CongL p r.dropLast s.dropLast := by
  refine ⟨by rw [List.length_dropLast, List.length_dropLast, h.1], fun t => ?_⟩
  rw [getD_drop, getD_drop, h.1]
  split
  · exact h.2 t
  · rfl
theorem lrest_stay (p : Int) (lo : List Int) : ∀ (m : Nat) (s : List Int), s.length ≤ lo.length → lrest p lo m s = s
  | 0, _, _ => rfl
  | m + 1, s, h => by rw [lrest, if_neg (by omega), lrest_stay p lo m s h]
theorem CongL.red {p : Int} {lo : List Int} (hlo : ∀ x ∈ lo, 0 ≤ x) : ∀ (n m : Nat) (r s : List Int), r.length ≤ n + lo.length → r.length ≤ m + lo.length → CongL p r s → CongL p (redL p lo.length (lowP 0 lo) n r) (lrest p lo m s)
  | 0, m, r, s, h1, h2, h => by
    rw [lrest_stay p lo m s (by have := h.1; omega)]; exact h
  | n + 1, m, r, s, h1, h2, h => by
    rw [redL]
    have hl := h.1
    split
    · rename_i hlt
      obtain ⟨m', rfl⟩ : ∃ m', m = m' + 1 := ⟨m - 1, by omega⟩
      rw [lrest, if_pos (by omega)]
      refine CongL.red hlo n m' _ _ ?_ ?_ ?_
      · rw [subP_len, List.length_dropLast]; omega
      · rw [subP_len, List.length_dropLast]; omega
      · rw [hl]
        refine CongL.sub (s.length - 1 - lo.length) ?_ lo 0 hlo h.drop
        rw [Int.emod_emod_of_dvd _ (Int.dvd_refl p), h.2]
    · rw [lrest_stay p lo m s (by omega)]; exact h
/-! ### rows below p -/
def Below (p : Int) (r : List Int) : Prop := ∀ x ∈ r, 0 ≤ x ∧ x < p
theorem Below.set {p y : Int} (hp : 0 < p) {r : List Int} (h : Below p r) (i : Nat) : Below p (r.set i (y % p)) := fun x hx => by
  rcases List.mem_or_eq_of_mem_set hx with e | e
  · exact h x e
  · rw [e]; exact pos_mod hp
theorem Below.add {p f : Int} (hp : 0 < p) : ∀ (os : List Int) (pl : Nat) {r : List Int}, Below p r → Below p (addM p f pl os r)
  | [], _, _, h => h
  | o :: os, pl, r, h => by rw [addM]; exact Below.add hp os (pl + 1) (h.set hp pl)
theorem Below.mul {p : Int} (hp : 0 < p) (other : List Int) : ∀ (fs : List Int) (pl : Nat) {r : List Int}, Below p r → Below p (lmul p other pl fs r)
  | [], _, _, h => h
  | f :: fs, pl, r, h => by rw [lmul]; exact Below.mul hp other fs (pl + 1) (h.add hp other pl)
theorem Below.sub {p f : Int} (hp : 0 < p) : ∀ (os : List Int) (pl : Nat) {r : List Int}, Below p r → Below p (subL p f pl os r)
  | [], _, _, h => h
  | o :: os, pl, r, h => by rw [subL]; exact Below.sub hp os (pl + 1) (h.set hp pl)
theorem Below.rest {p : Int} (hp : 0 < p) (lo : List Int) : ∀ (n : Nat) {r : List Int}, Below p r → Below p (lrest p lo n r)
  | 0, _, h => h
  | n + 1, r, h => by
    rw [lrest]
    refine Below.rest hp lo n ?_
    split
    · exact Below.sub hp lo _ fun x hx => h x (List.dropLast_subset _ hx)
    · exact h
theorem CongL.eq {p : Int} {r s : List Int} (h : CongL p r s) (hs : Below p s) : r.map (· % p) = s := by
  apply List.ext_getElem?
  intro t
  rw [List.getElem?_map]
  have e := h.2 t
  rw [List.getD_eq_getElem?_getD, List.getD_eq_getElem?_getD] at e
  by_cases ht : t < r.length
  · have ht2 : t < s.length := by rw [← h.1]; exact ht
    rw [List.getElem?_eq_getElem ht, List.getElem?_eq_getElem ht2] at e ⊢
    have hb := hs _ (List.getElem_mem ht2)
    show some (r[t] % p) = some s[t]
    have e' : r[t] % p = s[t] % p := e
    rw [e', Int.emod_eq_of_lt hb.1 hb.2]
  · rw [List.getElem?_eq_none (by omega), List.getElem?_eq_none (by have := h.1; omega)]; rfl
theorem CongL.refl (p : Int) (r : List Int) : CongL p r r := ⟨rfl, fun _ => rfl⟩
theorem below_zero {p : Int} (hp : 0 < p) (n : Nat) : Below p (List.replicate n 0) := fun x hx => by
  have := List.eq_of_mem_replicate hx; omega
theorem mul_law {p : Int} (hp : 0 < p) {lo A B : List Int} (hd : 1 ≤ lo.length) (hlo : ∀ x ∈ lo, 0 ≤ x) (hA : ∀ x ∈ A, 0 ≤ x) :
    mulM p lo A B = lawRest p (lmul p B 0 A (List.replicate (2 * lo.length - 1) 0)) lo := by
  have h1 : CongL p (mulA B 0 A (List.replicate (2 * lo.length - 1) 0)) (lmul p B 0 A (List.replicate (2 * lo.length - 1) 0)) := CongL.mul B A 0 hA (.refl p _)
  have hl : (lmul p B 0 A (List.replicate (2 * lo.length - 1) 0)).length = 2 * lo.length - 1 := by rw [lmul_len, List.length_replicate]
  have hl2 : (mulA B 0 A (List.replicate (2 * lo.length - 1) 0)).length = 2 * lo.length - 1 := by rw [mulA_len, List.length_replicate]
  have h2 := CongL.red hlo (2 * lo.length) (lmul p B 0 A (List.replicate (2 * lo.length - 1) 0)).length _ _ (by omega) (by omega) h1
  have h3 := h2.eq (Below.rest hp lo _ (Below.mul hp B A 0 (below_zero hp _)))
  have h4 := h2.1
  rw [redL_len p lo.length (lowP 0 lo) (2 * lo.length) _ (by omega) (by omega)] at h4
  unfold mulM lawRest
  rw [h3, ← h4, Nat.sub_self]
  simp
theorem prod_law {p : Int} (hp : 2 ≤ p) {lo : List Int} (hd : 1 ≤ lo.length) (hlo : ∀ x ∈ lo, 0 ≤ x) (a b : Int) :
    num p (mulM p lo (figs p lo.length a) (figs p lo.length b)) = lawTimes p lo a b := by
  unfold lawTimes
  rw [mul_law (by omega) hd hlo fun x hx => (figs_mem (by omega) _ _ x hx).1]
/-! ### the order of the two factors -/
def cv : List Int → List Int → Nat → Int
  | [], _, _ => 0
  | f :: fs, b, 0 => f * b.getD 0 0
  | f :: fs, b, t + 1 => f * b.getD (t + 1) 0 + cv fs b t
theorem cv_nil : ∀ (a : List Int) (t : Nat), cv a [] t = 0
  | [], _ => rfl
  | f :: fs, 0 => by show f * 0 = 0; rw [Int.mul_zero]
  | f :: fs, t + 1 => by show f * 0 + cv fs [] t = 0; rw [cv_nil fs t, Int.mul_zero]; rfl
theorem cv_cons : ∀ (a : List Int) (g : Int) (gs : List Int) (t : Nat), cv a (g :: gs) t = g * a.getD t 0 + (match t with | 0 => 0 | t + 1 => cv a gs t)
  | [], g, gs, 0 => by show (0 : Int) = g * 0 + 0; omega
  | [], g, gs, t + 1 => by show (0 : Int) = g * 0 + 0; omega
  | f :: fs, g, gs, 0 => by show f * g = g * f + 0; rw [Int.mul_comm, Int.add_zero]
  | f :: fs, g, gs, 1 => by
    show f * gs.getD 0 0 + cv fs (g :: gs) 0 = g * fs.getD 0 0 + f * gs.getD 0 0
    rw [cv_cons fs g gs 0]
    show f * gs.getD 0 0 + (g * fs.getD 0 0 + 0) = _
    omega
  | f :: fs, g, gs, t + 2 => by
    show f * gs.getD (t + 1) 0 + cv fs (g :: gs) (t + 1) = g * fs.getD (t + 1) 0 + (f * gs.getD (t + 1) 0 + cv fs gs t)
    rw [cv_cons fs g gs (t + 1)]
    show f * gs.getD (t + 1) 0 + (g * fs.getD (t + 1) 0 + cv fs gs t) = _
    omega
theorem cv_comm : ∀ (a b : List Int) (t : Nat), cv a b t = cv b a t
  | [], b, t => (cv_nil b t).symm
  | f :: fs, b, 0 => by rw [cv_cons b f fs 0]; show f * b.getD 0 0 = f * b.getD 0 0 + 0; omega
  | f :: fs, b, t + 1 => by
    rw [cv_cons b f fs (t + 1)]
    show f * b.getD (t + 1) 0 + cv fs b t = f * b.getD (t + 1) 0 + cv b fs t
    rw [cv_comm fs b t]
theorem addL_at (f : Int) : ∀ (os : List Int) (pl : Nat) (rest : List Int) (t : Nat), pl + os.length ≤ rest.length → (addL f pl os rest).getD t 0 = rest.getD t 0 + (if pl ≤ t then f * os.getD (t - pl) 0 else 0)
  | [], pl, rest, t, _ => by
    show rest.getD t 0 = rest.getD t 0 + (if pl ≤ t then f * 0 else 0)
    rw [Int.mul_zero]; split <;> omega
  | o :: os, pl, rest, t, h => by
    rw [List.length_cons] at h
    rw [addL, addL_at f os (pl + 1) _ t (by rw [List.length_set]; omega), getD_set]
    by_cases h1 : pl = t
    · subst h1
      rw [if_pos ⟨rfl, by omega⟩, if_neg (by omega), if_pos (Nat.le_refl _), Nat.sub_self, Int.add_zero]; rfl
    · rw [if_neg (fun z => h1 z.1)]
      by_cases h2 : pl ≤ t
      · rw [if_pos (by omega), if_pos h2]
        obtain ⟨s, hs⟩ : ∃ s, t - pl = s + 1 := ⟨t - pl - 1, by omega⟩
        rw [hs, show t - (pl + 1) = s by omega]; rfl
      · rw [if_neg (by omega), if_neg h2]
theorem mulA_at (other : List Int) : ∀ (fs : List Int) (pl : Nat) (rest : List Int) (t : Nat), (∀ x ∈ fs, 0 ≤ x) → pl + fs.length + other.length ≤ rest.length + 1 → (mulA other pl fs rest).getD t 0 = rest.getD t 0 + (if pl ≤ t then cv fs other (t - pl) else 0)
  | [], pl, rest, t, _, _ => by
    show rest.getD t 0 = rest.getD t 0 + (if pl ≤ t then 0 else 0)
    split <;> omega
  | f :: fs, pl, rest, t, hf, h => by
    rw [List.length_cons] at h
    have hf0 := hf f (List.mem_cons_self ..)
    have step : (if 0 < f then addL f pl other rest else rest).getD t 0 = rest.getD t 0 + (if pl ≤ t then f * other.getD (t - pl) 0 else 0) := by
      by_cases h0 : 0 < f
      · rw [if_pos h0, addL_at f other pl rest t (by omega)]
      · obtain rfl : f = 0 := by omega
        rw [if_neg h0, Int.zero_mul]; split <;> omega
    have hl : (if 0 < f then addL f pl other rest else rest).length = rest.length := by
      split
      · exact addL_len _ _ _ _
      · rfl
    rw [mulA, mulA_at other fs (pl + 1) _ t (fun x hx => hf x (List.mem_cons_of_mem _ hx)) (by rw [hl]; omega), step]
    by_cases h2 : pl ≤ t
    · rw [if_pos h2, if_pos h2]
      by_cases h3 : pl = t
      · subst h3
        rw [if_neg (by omega), Nat.sub_self]
        show _ = _ + f * other.getD 0 0
        omega
      · obtain ⟨s, hs⟩ : ∃ s, t - pl = s + 1 := ⟨t - pl - 1, by omega⟩
        rw [if_pos (by omega), hs, show t - (pl + 1) = s by omega]
        show _ = _ + (f * other.getD (s + 1) 0 + cv fs other s)
        omega
    · rw [if_neg h2, if_neg h2, if_neg (by omega)]; omega
theorem list_getD_ext {r s : List Int} (hl : r.length = s.length) (h : ∀ t, r.getD t 0 = s.getD t 0) : r = s := by
  apply List.ext_getElem?
  intro t
  have e := h t
  rw [List.getD_eq_getElem?_getD, List.getD_eq_getElem?_getD] at e
  by_cases ht : t < r.length
  · have ht2 : t < s.length := by rw [← hl]; exact ht
    rw [List.getElem?_eq_getElem ht, List.getElem?_eq_getElem ht2] at e ⊢
    exact congrArg some e
  · rw [List.getElem?_eq_none (by omega), List.getElem?_eq_none (by omega)]
theorem mulA_comm {A B : List Int} {d : Nat} (hA : A.length = d) (hB : B.length = d) (hd : 1 ≤ d) (ha : ∀ x ∈ A, 0 ≤ x) (hb : ∀ x ∈ B, 0 ≤ x) : mulA B 0 A (List.replicate (2 * d - 1) 0) = mulA A 0 B (List.replicate (2 * d - 1) 0) := by
  refine list_getD_ext (by rw [mulA_len, mulA_len]) fun t => ?_
  rw [mulA_at B A 0 _ t ha (by rw [List.length_replicate]; omega), mulA_at A B 0 _ t hb (by rw [List.length_replicate]; omega), cv_comm]
theorem mulM_comm {p : Int} {lo A B : List Int} (hA : A.length = lo.length) (hB : B.length = lo.length) (hd : 1 ≤ lo.length) (ha : ∀ x ∈ A, 0 ≤ x) (hb : ∀ x ∈ B, 0 ≤ x) : mulM p lo A B = mulM p lo B A := by
  unfold mulM
  rw [mulA_comm hA hB hd ha hb]
/-! ### the sixteen fields -/
def chk (p : Int) (k : Nat) (N : Nat) : Bool :=
  isField p (k : Int) && (decide (k = 1) || (irr p (figs p k (N : Int)) && (List.range N).all fun n => !irr p (figs p k (n : Int)))) &&
  (decide ((N : Int) < sizeI p k) && lowerW p k (N : Int) && (List.range N).all fun n => !lowerW p k (n : Int)) && decide (k ≠ 1 ∨ N = 0)
theorem chk_ok {p : Int} {k N : Nat} (hk : 1 ≤ k) (h : chk p k N = true) : isField p (k : Int) = true ∧ FieldP p (k : Int) (figs p k (N : Int)) ∧ LowerP p (k : Int) (figs p k (N : Int)) := by
  unfold chk at h
  simp only [Bool.and_eq_true, Bool.or_eq_true, decide_eq_true_eq, List.all_eq_true, List.mem_range, Bool.not_eq_true'] at h
  obtain ⟨⟨⟨h1, h2⟩, ⟨⟨h3, h4⟩, h5⟩⟩, h6⟩ := h
  refine ⟨h1, ?_, N, h3, rfl, h4, h5⟩
  rcases Nat.lt_or_ge 1 k with hk2 | hk2
  · rcases h2 with h2 | h2
    · omega
    · exact .inr ⟨by omega, N, rfl, h2.1, h2.2⟩
  · obtain rfl : k = 1 := by omega
    obtain rfl : N = 0 := by rcases h6 with h | h <;> omega
    refine .inl ⟨rfl, ?_⟩
    show [((0 : Nat) : Int) % p] = [0]
    rw [show ((0 : Nat) : Int) = 0 from rfl, Int.zero_emod]
end Mi
namespace My
open PySem PySem.Spec PyProof.Rows L2 Evl
/-- a new list of so many ints, of which each is so -/
def RetS (n : Nat) (G : Int → Prop) (H : Hp) (Q : VK) : Prop := ∀ p H2 (ns : List Int), H p = none → Ex H H2 → H2 p = some (.lst (ns.map V.int)) → ns.length = n → (∀ x ∈ ns, G x) → Q (.ref p) H2
/-- an int that is so -/
def RetI (G : Int → Prop) (H : Hp) (Q : VK) : Prop := ∀ H2 (n : Int), Ex H H2 → G n → Q (.int n) H2
def EvS (te : TE) (σ : L2.St) (H : Hp) (n : Nat) (G : Int → Prop) : Prop := ∀ H1, Ex H H1 → ∀ Q : VK, RetS n G H1 Q → te σ H1 Q
def EvI (te : TE) (σ : L2.St) (H : Hp) (G : Int → Prop) : Prop := ∀ H1, Ex H H1 → ∀ Q : VK, RetI G H1 Q → te σ H1 Q
/-- a list of pairs, each a new tuple -/
def EvP (ta : TA) (σ : L2.St) (H : Hp) (ps : List (Nat × Int)) : Prop := ∀ H1, Ex H H1 → ∀ Q : List V → Hp → Prop, (∀ vs H2, Ex H1 H2 → PairsAt H2 vs ps → Q vs H2) → ta σ H1 Q
section
variable {K : PySem.W.Frag} {σ : L2.St} {H : Hp} {ta tb te tl th : TE} {t u : TT} {x y v : V} {D : Ends} {tz tu : TS}
theorem evp_nil : EvP tNil σ H [] := fun H1 _ Q q => q _ H1 (Ex.refl H1) .nil
theorem evp_cons {p : Nat} {k : Int} {ps : List (Nat × Int)} {tr : TA} (h : EvU te σ H [.int (p : Nat), .int k]) (hr : EvP tr σ H ps) : EvP (tCons te tr) σ H ((p, k) :: ps) := fun H1 e Q q =>
  h H1 e _ fun a H2 _ e2 h2 => hr H2 (e.trans e2) _ fun vs H3 e3 hP => q _ H3 (e2.trans e3) (.cons ⟨a, rfl, e3 a _ h2⟩ hP)
theorem evs_call {sp : Sp} {E : XK} {t : TA} {vs : List V} {n : Nat} {G : Int → Prop} (h : EvA t σ H vs) (hs : ∀ H1, Ex H H1 → ∀ Q : VK, RetS n G H1 Q → ∀ E, sp (vs ++ []) H1 Q E) : EvS (tCall sp [] E t) σ H n G := fun H1 e Q q =>
  h H1 e _ fun H2 e2 => hs H2 (e.trans e2) Q (fun p H3 ns hp e3 h3 => q p H3 ns (fresh_back e2 hp) (e2.trans e3) h3) E
theorem evi_call {sp : Sp} {E : XK} {t : TA} {vs : List V} {G : Int → Prop} (h : EvA t σ H vs) (hs : ∀ H1, Ex H H1 → ∀ Q : VK, RetI G H1 Q → ∀ E, sp (vs ++ []) H1 Q E) : EvI (tCall sp [] E t) σ H G := fun H1 e Q q =>
  h H1 e _ fun H2 e2 => hs H2 (e.trans e2) Q (fun H3 n e3 hn => q H3 n (e2.trans e3) hn) E
theorem q_asgS {i n : Nat} {G : Int → Prop} (h : EvS te σ H n G) (k : ∀ p H1 (ns : List Int), H p = none → Ex H H1 → H1 p = some (.lst (ns.map V.int)) → ns.length = n → (∀ x ∈ ns, G x) → tz D (σ.set i (some (.ref p))) H1) : tSeq (tAsg te (gName i)) tz D σ H := h H (Ex.refl H) _ k
theorem q_asgI {i : Nat} {G : Int → Prop} (h : EvI te σ H G) (k : ∀ H1 (n : Int), Ex H H1 → G n → tz D (σ.set i (some (.int n))) H1) : tSeq (tAsg te (gName i)) tz D σ H := h H (Ex.refl H) _ k
/-- xs[a:b] -/
theorem el_slice {p : Addr} {xs : List V} {lo hi : Option Int} (h : Ev te σ H (.ref p)) (hx : SqL K H p xs) {tlo thi : TO} (hl : EvO tlo σ H lo) (hh : EvO thi σ H hi) : EvL (tSl (rSlL K) te tlo thi) σ H (cutV xs lo hi) := fun H1 e Q q =>
  h H1 e _ fun H2 e2 => hl H2 (e.trans e2) _ fun H3 e3 => hh H3 ((e.trans e2).trans e3) _ fun H4 e4 => ⟨p, xs, rfl, ex_l (((e.trans e2).trans e3).trans e4) hx, fun l hl => q l _ (fresh_back ((e2.trans e3).trans e4) hl) (((e2.trans e3).trans e4).trans (Ex.new hl)) upd_same⟩
theorem evo_none : EvO tNoPart σ H none := fun H1 _ Q q => q H1 (Ex.refl H1)
theorem evo_some {n : Int} (h : Ev te σ H (.int n)) : EvO (tPart te) σ H (some n) := fun H1 e Q q => h H1 e _ fun H2 e2 => ⟨n, rfl, q H2 e2⟩
theorem cut_to (xs : List V) (n : Nat) : cutV xs none (some (n : Int)) = xs.take n := by
  unfold cutV
  rw [HT.sIx_none, HT.sIx_nat]
  show ((xs.drop 0).take (min n xs.length - 0)) = xs.take n
  rw [List.drop_zero, Nat.sub_zero]
  rcases Nat.le_total n xs.length with h | h
  · rw [Nat.min_eq_left h]
  · rw [Nat.min_eq_right h, List.take_length, List.take_of_length_le h]
/-- max(a, b) -/
theorem ev_max2 {i j : Int} {ta : TA} (h : EvA ta σ H [.int i, .int j]) : Ev (tCB (fun xs H Q => ∃ i j, xs = [V.int i, V.int j] ∧ Q (.int (if j > i then j else i)) H) ta) σ H (.int (if j > i then j else i)) := fun H1 e Q q =>
  h H1 e _ fun H2 e2 => ⟨i, j, rfl, q H2 e2⟩
theorem ev_min2 {i j : Int} {ta : TA} (h : EvA ta σ H [.int i, .int j]) : Ev (tCB (fun xs H Q => ∃ i j, xs = [V.int i, V.int j] ∧ Q (.int (if j < i then j else i)) H) ta) σ H (.int (if j < i then j else i)) := fun H1 e Q q =>
  h H1 e _ fun H2 e2 => ⟨i, j, rfl, q H2 e2⟩
/-- isinstance(x, T) of an int -/
theorem ev_isi {ta : TE} {i : Int} {T : String} {b : Bool} (h : Ev ta σ H (.int i)) (hk : PySem.W.kitOne K (.type "int") (.type T) = some b) : Ev (tCB (rIsi K) (tCons ta (tCons (tC (.ty T)) tNil))) σ H (.bl b) := fun H1 e Q q =>
  h H1 e _ fun H2 e2 => ⟨.int i, .ty T, .type "int", .type T, b, rfl, .ty T, .base (.int i), hk, q H2 e2⟩
/-- for x in a new list -/
theorem gets_listN {xs : List V} {R : It → Hp → Prop} (h : EvL te σ H xs) (k : ∀ p H1, H p = none → Ex H H1 → H1 p = some (.lst xs) → R (Itl K p) H1) : iList K te σ H R := h H (Ex.refl H) _ fun p H1 hp e h1 => ⟨p, rfl, ⟨xs, sq_of h1⟩, k p H1 hp e h1⟩
/-- xs[::-1] -/
theorem el_rev {p : Addr} {xs : List V} (h : Ev te σ H (.ref p)) (hx : SqL K H p xs) : EvL (tRevL K te) σ H xs.reverse := fun H1 e Q q =>
  h H1 e _ fun H2 e2 => ⟨p, xs, rfl, ex_l (e.trans e2) hx, fun l hl => q l _ (fresh_back e2 hl) (e2.trans (Ex.new hl)) upd_same⟩
/-- while, by a word that falls, told with what the loop's turn wants -/
theorem s_setLI {l : Addr} {xs : List V} {j : Nat} (hl : H l = some (.lst xs)) (h : Ev te σ H v) (ho : Ev ta σ H (.ref l)) (hi : Ev tb σ H (.int (j : Int))) (hj : j < xs.length) (k : ∀ H1, Ex H H1 → D.nx σ (upd H1 l (.lst (xs.set j v)))) : tAsg te (gSub ta tb rSetL) D σ H := s_setL hl h ho hi hj k
/-- the truth of a bool -/
theorem et_truB {b : Bool} (h : Ev te σ H (.bl b)) : EvT (fun σ H Q => te σ H fun x H' => ∃ k, TruV K x H' k ∧ Q k H') σ H b := fun H1 e Q q => h H1 e _ fun H2 e2 => ⟨b, rfl, q H2 e2⟩
end
section
variable {X : Cx} {pos : Pos} {K : PySem.W.Frag}
theorem pe_revLK (h0 : X.K = K) {e : Expr} {te : TE} {k : Nat} {p1 p2 p3 pos : Pos} (he : PE X e te) : PE X (.Subscript e (.Slice none none (some (.UnaryOp .USub (.Constant (.int 1) k p1) p2)) p3) pos) (tRevL K te) := h0 ▸ pe_revL he
theorem call_isiK2 (h : X.K = K) : CallR X (.builtin "isinstance") (rIsi K) := h ▸ call_isi
theorem sl_listK (h : X.K = K) : SlR X (rSlL K) := h ▸ sl_list
theorem cr_maxK (h : X.K = K) (hc : X.calm = true) : CallR X (.builtin "max") (rMax K) := h ▸ cr_max hc
end
end My
namespace My
open PySem L2 Evl
theorem el_is {te : TE} {σ : L2.St} {H : Hp} {xs ys : List V} (h : EvL te σ H xs) (e : xs = ys) : EvL te σ H ys := e ▸ h
end My
namespace My
open PySem L2 Evl
section
variable {σ : L2.St} {H : Hp} {te : TE} {D : Ends} {tz : TS}
theorem evp_cons2 {p : Nat} {k z : Int} {ps : List (Nat × Int)} {tr : TA} (hz : z = (p : Int)) (hr : EvP tr σ H ps) : EvP (tCons (tTup (tCons (tC (.int z)) (tCons (tC (.int k)) tNil))) tr) σ H ((p, k) :: ps) := by
  subst hz
  exact evp_cons (eu_tup (ea_cons ev_c (ea_cons ev_c ea_nil)) (by show 2 ≤ 100000; decide)) hr
theorem q_asgPs {i : Nat} {ps : List (Nat × Int)} {ta : TA} (h : EvP ta σ H ps) (hl : ps.length ≤ 100) (k : ∀ o H1 vs, H o = none → Ex H H1 → H1 o = some (.lst vs) → PairsAt H1 vs ps → tz D (σ.set i (some (.ref o))) H1) : tSeq (tAsg (tLst ta) (gName i)) tz D σ H :=
  h H (Ex.refl H) _ fun vs H1 e1 hP => ⟨sz_of (by have := hP.len; omega), fun o no => k o _ vs (fresh_back e1 no) (e1.trans (Ex.new no)) upd_same (hP.mono (Ex.new no))⟩
end
end My
namespace My
open PySem PySem.Spec L2 Evl Mi
section
variable {K : PySem.W.Frag} {σ : L2.St} {H : Hp} {ta tb tc te : TE} {x y z v : V} {D : Ends} {tz tu : TS}
/-- max(..) of a new list -/
theorem ev_maxL {ns : List Int} (h : EvL te σ H (ns.map V.int)) (h0 : ns ≠ []) : Ev (tCB (rMax K) (tCons te tNil)) σ H (.int (maxI ns)) := fun H1 e Q q =>
  h H1 e _ fun p H2 hp e2 h2 => ⟨p, ns, rfl, sq_of h2, List.length_pos_iff.mpr h0, fun m hm hle => by rw [maxI_eq hm hle]; exact q H2 e2⟩
/-- f(x, [..], [..]) -/
theorem el_call3LL {sp : Sp} {E : XK} {xs ys zs : List V} (ha : Ev ta σ H x) (hb : EvL tb σ H ys) (hc : ∀ H1, Ex H H1 → EvL tc σ H1 zs) (hs : ∀ b c H1, Ex H H1 → H1 b = some (.lst ys) → H1 c = some (.lst zs) → ∀ Q : VK, RetL xs H1 Q → ∀ E, sp [x, .ref b, .ref c] H1 Q E) :
    EvL (tCall sp [] E (tCons ta (tCons tb (tCons tc tNil)))) σ H xs := fun H1 e Q q =>
  ha H1 e _ fun H2 e2 => hb H2 (e.trans e2) _ fun b H3 nb e3 h3 => hc H3 ((e.trans e2).trans e3) H3 (Ex.refl H3) _ fun c H4 nc e4 h4 =>
    hs b c H4 (((e.trans e2).trans e3).trans e4) (e4 b _ h3) h4 Q (fun p H5 hp e5 h5 => q p H5 (fresh_back ((e2.trans e3).trans e4) hp) (((e2.trans e3).trans e4).trans e5) h5) E
end
/-- pairs of values at addresses -/
def PairsV (H : Hp) : List V → List (V × V) → Prop := Paired (fun x q => ∃ t, x = V.ref t ∧ H t = some (.tup [q.1, q.2]))
theorem PairsV.mono {H H' : Hp} (e : Ex H H') : ∀ {xs : List V} {ps : List (V × V)}, PairsV H xs ps → PairsV H' xs ps
  | _, _, .nil => .nil
  | _, _, .cons ⟨t, h1, h2⟩ r => .cons ⟨t, h1, e _ _ h2⟩ (PairsV.mono e r)
theorem PairsV.get {H : Hp} : ∀ {xs : List V} {ps : List (V × V)} {i : Nat} {x : V}, PairsV H xs ps → xs[i]? = some x → ∃ q, ps[i]? = some q ∧ ∃ t, x = V.ref t ∧ H t = some (.tup [q.1, q.2])
  | _, _, _, _, .nil, e => by simp at e
  | _, _, 0, _, .cons (b := q) r _, e => by simp at e; subst e; exact ⟨q, rfl, r⟩
  | _, _, i + 1, x, .cons _ t, e => by
    obtain ⟨q, h1, h2⟩ := PairsV.get (i := i) (x := x) t (by simpa using e)
    exact ⟨q, by simpa using h1, h2⟩
theorem PairsV.len {H : Hp} : ∀ {xs : List V} {ps : List (V × V)}, PairsV H xs ps → xs.length = ps.length
  | _, _, .nil => rfl
  | _, _, .cons _ t => congrArg (· + 1) (PairsV.len t)
def EvPV (ta : TA) (σ : L2.St) (H : Hp) (ps : List (V × V)) : Prop := ∀ H1, Ex H H1 → ∀ Q : List V → Hp → Prop, (∀ vs H2, Ex H1 H2 → PairsV H2 vs ps → Q vs H2) → ta σ H1 Q
section
variable {K : PySem.W.Frag} {σ : L2.St} {H : Hp} {te : TE} {x y : V} {D : Ends} {tz tu : TS}
theorem evpv_nil : EvPV tNil σ H [] := fun H1 _ Q q => q _ H1 (Ex.refl H1) .nil
theorem evpv_cons {ps : List (V × V)} {tr : TA} (h : EvU te σ H [x, y]) (hr : EvPV tr σ H ps) : EvPV (tCons te tr) σ H ((x, y) :: ps) := fun H1 e Q q =>
  h H1 e _ fun a H2 _ e2 h2 => hr H2 (e.trans e2) _ fun vs H3 e3 hP => q _ H3 (e2.trans e3) (.cons ⟨a, rfl, e3 a _ h2⟩ hP)
/-- for a, b in [(..), ..] -/
theorem q_forPV {ps : List (V × V)} {ta : TA} {j l : Nat} (h : EvPV ta σ H ps) (hl : ps.length ≤ 100) (Pv : Hp → Nat → L2.St → Hp → Prop) (h0 : ∀ H1, Ex H H1 → Pv H1 0 σ H1) (hE : ∀ H1 i σ' H', Pv H1 i σ' H' → Ex H1 H')
    (hs : ∀ H1 i x y σ' H', ps[i]? = some (x, y) → Pv H1 i σ' H' → tu { D with nx := Pv H1 (i + 1), ct := Pv H1 (i + 1), bk := tz D } ((σ'.set j (some x)).set l (some y)) H') (hd : ∀ H1 σ' H', Pv H1 ps.length σ' H' → tz D σ' H') :
    tSeq (tFor (iList K (tLst ta)) (gTup K 2 (gCons (gName j) (gCons (gName l) gNil))) tu) tz D σ H :=
  h H (Ex.refl H) _ fun vs H1 e1 hP => ⟨sz_of (by have := hP.len; omega), fun o no => by
    have hP2 := hP.mono (Ex.new (o := .lst vs) no)
    have hlen := hP2.len
    refine ⟨o, rfl, ⟨vs, sq_of upd_same⟩, for_it (walk_list (xs := vs)) (Pv (upd H1 o (.lst vs))) (h0 _ (e1.trans (Ex.new no))) (fun i σ' H' _ p => ex_l (hE _ _ _ _ p) (sq_of upd_same)) ?_ (fun σ' H' p => hd _ σ' H' (by rw [← hlen]; exact p))⟩
    rintro i v σ' H' H2 hi p ⟨rfl, hv⟩
    obtain ⟨⟨x, y⟩, hq, t, rfl, ht⟩ := hP2.get hv
    exact g_pair (st_of (hE _ _ _ _ p t _ ht)) (hs _ i x y σ' _ hq p)⟩
end
end My
/-! a law's own frame, of which it is known that nothing is being shown: repr of what it holds -/
namespace L2
open PySem PySem.Spec PyProof.Rows
structure FnG (P : Program) (w : World) (K : PySem.W.Frag) (mg : Str → Option Value) (base : Heap) (CX : CXT) (k : Nat) (f : Addr) (fd : FuncData) (ps : List Str) (sp : Sp) : Prop where
  len : ∀ vs H Q E, sp vs H Q E → vs.length = ps.length
  run : ∀ (A : Around) (_ : A.guards = some []) (outer : List Env) (s : Shared) (H : Hp) (args : Args) (us : List Value) (vs : List V) (Q : VK) (E : XK), Room k A → Env0 P w K mg base A outer s H → BindsTo s fd args (ps.zip us) → Vals vs us → sp vs H Q E →
    codeAny (model P w) A (.call (.ref f) args) (CR CX outer P w H s Q E) s

theorem fn_ofG {CX : CXT} {P : Program} {w : World} {K : PySem.W.Frag} {mg : Str → Option Value} {base : Heap} {k : Nat} {f : Addr} {name qual : Str} {params : Arguments} {body : List Stmt} {scope : Scope} {dV kV doc pm cdv ct oc : Value} {an od : Option Addr}
    {osl : Array (Option Value)} {N ps : List Str} {sp : Sp} (lk : K.lookup f = some ⟨oc, od, .func (PySem.W.fnOf name qual params body scope dV kV doc pm an cdv ct), osl⟩) (hcd : PySem.W.codeIn K cdv qual = true) (S : FnScope N ps scope)
    (len : ∀ vs H Q E, sp vs H Q E → vs.length = ps.length)
    (hbody : ∀ (A : Around) (_ : A.guards = some []) (outer : List Env) (s : Shared) (H : Hp) (vs : List V) (Q : VK) (E : XK), Room k (A.deeper (envOfC qual scope s.heap.objs.size f cdv)) → sp vs H Q E →
      ∃ t, PSs (cxOf CX P w K mg base N qual scope f cdv A outer s H E) body t ∧ t { nx := fun _ H' => Q .non H', rt := Q } (start N vs) H) :
    FnG P w K mg base CX (k + 1) f (PySem.W.fnOf name qual params body scope dV kV doc pm an cdv ct) ps sp := by
  refine ⟨len, fun A gA outer s H args us vs Q E hr e0 hb r hsp => ?_⟩
  have hl := len _ _ _ _ hsp
  have KX : K.In s.heap := e0.mod.kin.keeps fun b o e => (e0.bs b o e).1
  have lim : s.heap.NoLimit := e0.mod.nolimit.keeps fun b o e => (e0.bs b o e).1
  have hkind : ∀ y ∈ ps.zip us, scope.names.lookup y.1 = some .local ∨ (scope.names.lookup y.1 = some .cell ∧ ((cellsFrom (s.heap.objs.size + 1) scope.names []).lookup y.1).isSome = true) := fun ⟨n, v⟩ hy => by
    rcases S.par n (List.of_mem_zip hy).1 with q | q
    · exact .inl q
    · exact .inr ⟨q, PySem.W.cellsFrom_some _ _ _ (.inl q)⟩
  refine codeAny_call_function hr.depth (KX _ _ lk) rfl S.co S.gen rfl (PySem.W.codeRec_of KX hcd) (hb _ _ _ _ ?_)
  refine wpAny_newFunctionEnv_cells S.kind hkind fun env he s1 x => ?_
  subst he
  refine ⟨lim.keeps x.toInCall.keep, codeAny_func ?_⟩
  obtain ⟨t, ht, hq⟩ := hbody A gA outer s H vs Q E (hr.deeper _) hsp
  have I : Inv (cxOf CX P w K mg base N qual scope f cdv A outer s H E) [] (start N vs) H s1 := inv_start S hr.hd e0 hl r x
  refine wpAny_mono (ht.run [] s1 (start N vs) H _ I hq) (fun fl s' hs => ?_) fun e s' hs => hs
  have fin : ∀ {σ' : St} {H' : Hp} {v : V} {u : Value}, Inv (cxOf CX P w K mg base N qual scope f cdv A outer s H E) [] σ' H' s' → RelV v u → Q v H' → CE outer P w H s Q u s' :=
    fun {σ' H' v u} J rv q => ⟨v, H', J.os, J.bare, J.base, J.hok, rv, q⟩
  cases fl with
  | ret u =>
    obtain ⟨v, σ', H', J, rv, q⟩ := hs
    exact fin J rv q
  | next =>
    obtain ⟨σ', H', J, q⟩ := hs
    exact fin (v := V.non) (u := Value.none) J rfl q
  | brk =>
    obtain ⟨_, _, _, q⟩ := hs
    exact False.elim q
  | cont =>
    obtain ⟨_, _, _, q⟩ := hs
    exact False.elim q
theorem law_callG {P : Program} {w : World} {K : PySem.W.Frag} {mg mb : Str → Option Value} {CX : CXT} {k : Nat} {fa a : Addr} {fd : FuncData} {x : Str} {sp : Sp} {s₁ : Shared} {vs : List Value} {ns : List Int}
    (KX : K.In s₁.heap) (hns : s₁.heap.Ns mainGlobals mg) (hb : s₁.heap.Ns builtinsNs mb) (hbb : ∀ x : Str, x ≠ "__name__" → mb x = bootBuiltins x) (hlim : s₁.heap.NoLimit) (hg : s₁.gens = #[])
    (ha : s₁.heap.get? a = some { cls := .type "list", data := .seq vs.toArray }) (hi : IntsAre vs ns) (hl : ns.length ≤ sizeLine) (hr : Room k callerA)
    (F : ∀ base : Heap, K.In base → base.Ns mainGlobals mg → FnG P w K mg base CX k fa fd [x] sp) (hbind : ∀ (s : Shared) (u : Value), BindsTo s fd ⟨[u], []⟩ [(x, u)])
    (hsp : ∀ H : Hp, Only H → SqL K H a (ns.map V.int) → sp [.ref a] H (fun v _ => v = .bl true) fun _ _ _ => False)
    (hCX : ∀ H e s', CX [] H s₁ (fun _ _ _ => False) e s' → False) :
    codeAny (model P w) callerA (.call (.ref fa) ⟨[.ref a], []⟩) (fun r s' => r = .ok (.ret (.bool true)) ∧ OldK s₁.heap s'.heap ∧ s'.os = s₁.os ∧ AllBare s'.gens) s₁ := by
  have rv := vals_ints hi
  have lenV := hi.length
  -- from an abstract heap in which nothing but the script may be tracked
  have core : ∀ H : Hp, Only H → SqL K H a (ns.map V.int) → HOk P w H s₁.heap → (∀ b, H b ≠ none → b = a) → (H a ≠ none → K.lookup a = none) →
      codeAny (model P w) callerA (.call (.ref fa) ⟨[.ref a], []⟩) (fun r s' => r = .ok (.ret (.bool true)) ∧ OldK s₁.heap s'.heap ∧ s'.os = s₁.os ∧ AllBare s'.gens) s₁ := by
    intro H hO hS hok hA hK
    have base_of : ∀ {b : Addr} {o : Obj}, s₁.heap.get? b = some o → H b = none → (hidT s₁.heap H).get? b = some o := fun e n => hidT_get e n
    have noA : ∀ {b : Addr} {o : Obj} {es : Array DictEntry} {ep : Nat}, s₁.heap.get? b = some o → o.data = .dict es ep → H b = none := fun {b o es ep} e d => by
      cases q : H b with
      | none => rfl
      | some u =>
        have e' : b = a := hA b (by rw [q]; simp)
        subst e'
        rw [ha] at e; cases e
        have d' : Data.seq vs.toArray _ = Data.dict es ep := d
        cases d'
    have nsK : ∀ {b : Addr} {m : Str → Option Value}, s₁.heap.Ns b m → (hidT s₁.heap H).Ns b m := fun {b m} ⟨o, es, ep, e, d, r⟩ => ⟨o, es, ep, base_of e (noA e d), d, r⟩
    have hKb : K.In (hidT s₁.heap H) := fun b o e => base_of (KX b o e) (by
      cases q : H b with
      | none => rfl
      | some u =>
        have e' : b = a := hA b (by rw [q]; simp)
        subst e'
        rw [hK (by rw [q]; simp)] at e; cases e)
    have hM : Mod K mg (hidT s₁.heap H) := ⟨hKb, nsK hns, ⟨mb, nsK hb, hbb⟩, let ⟨mc, h1, h2⟩ := hlim; ⟨mc, nsK h1, h2⟩⟩
    have e0 : Env0 P w K mg (hidT s₁.heap H) callerA [] s₁ H := ⟨rfl, hM, fun b o e => of_hidT e, Nat.le_of_eq (hidT_size _ _), trivial, fun b hb => absurd (show b ∈ ([] : List Addr) from hb) (by simp), hok, .of_eq hg⟩
    refine codeAny_mono ((F _ hKb (nsK hns)).run callerA rfl [] s₁ H ⟨[.ref a], []⟩ [.ref a] [.ref a] _ _ hr e0 (hbind s₁ (.ref a)) (.cons rfl .nil) (hsp H hO hS)) fun r s' h => ?_
    cases r with
    | error e => exact (hCX H e s' h).elim
    | ok fl =>
      cases fl with
      | next => exact False.elim h
      | brk => exact False.elim h
      | cont => exact False.elim h
      | ret u =>
        obtain ⟨v, H', os, bare, un, hok', r', q⟩ := h
        have q' : v = .bl true := q
        subst q'
        obtain rfl : u = Value.bool true := r'
        refine ⟨rfl, OldK.of_keep fun b o e => ?_, os, bare⟩
        cases q : H b with
        | none => exact un.keep b o e q (by intro z; exact absurd (show b ∈ ([] : List Addr) from z) (by simp)) (by simp)
        | some u =>
          rcases hO b with z | ⟨ob, xs, z⟩
          · rw [q] at z; cases z
          · have z2 := un.frzs b ob _ z
            obtain ⟨e1, _⟩ := hok b _ z
            obtain ⟨e2, _⟩ := hok' b _ z2
            rw [e] at e1; cases e1
            exact e2
  cases hk : K.lookup a with
  | some o =>
    -- the script is one of the module's own objects
    have e := KX a o hk
    rw [ha] at e
    cases e
    refine core (fun _ => none) (fun _ => .inl rfl) (.inr ⟨_, vs.toArray, _, hk, rfl, rfl, rfl, by rw [List.size_toArray, lenV]; exact hl, by simpa using rv⟩) (fun b u z => by have z' : (none : Option HO) = some u := z; cases z') (fun b z => absurd rfl z) fun z => absurd rfl z
  | none =>
    refine core (fun b => if b = a then some (.frz { cls := .type "list", data := .seq vs.toArray } (.lst (ns.map V.int))) else none) (fun b => ?_) (.inl (.inr ⟨{ cls := .type "list", data := .seq vs.toArray }, if_pos rfl⟩)) (fun b u z => ?_) (fun b z => ?_) fun _ => hk
    · by_cases hb : b = a
      · exact .inr ⟨_, _, if_pos hb⟩
      · exact .inl (if_neg hb)
    · by_cases hb : b = a
      · have z' := (if_pos hb).symm.trans z
        cases z'
        subst hb
        exact ⟨ha, by rw [List.length_map]; exact hl, vs, _, rv, ha⟩
      · have z' := (if_neg hb).symm.trans z
        cases z'
    · by_cases hb : b = a
      · exact hb
      · exact absurd (if_neg hb) z
theorem walk_ofG {l : PySem.W.OpenLaw} {n k : Nat} {q : Program} {loose : List Str} {XP : (Str → Option Value) → Heap → Prop} {YP : World → Heap → Prop} {d : DefRec} {K : Params → PySem.W.Frag} {CX : World → CXT} {sp : World → Sp} {x : Str}
    (hn : l.most = some n) (hn2 : n ≤ sizeLine) (hdf : d.params.defaults = []) (hr : Room k callerA)
    (hY : ∀ (w : World) (h : Heap), YP w h → (K w.params).In h)
    (F : ∀ (w : World) (mg : Str → Option Value) (fa : Addr) (h : Heap), (K w.params).In h → h.Ns mainGlobals mg → mg d.name = some (.ref fa) →
      ∃ fd : FuncData, (∀ (s : Shared) (u : Value), BindsTo s fd ⟨[u], []⟩ [(x, u)]) ∧
        ∀ base : Heap, (K w.params).In base → base.Ns mainGlobals mg → FnG l.prog w (K w.params) mg base (CX w) k fa fd [x] (sp w))
    (hsp : ∀ (w : World) (H : Hp) (a : Addr) (ns : List Int), ns.length ≤ n → Only H → SqL (K w.params) H a (ns.map V.int) → sp w [.ref a] H (fun v _ => v = .bl true) fun _ _ _ => False)
    (hCX : ∀ (w : World) (H : Hp) (s : Shared) (e : Value) (s' : Shared), CX w [] H s (fun _ _ _ => False) e s' → False) :
    PySem.W.WalkO q loose XP YP l.row.toRowW d [] (fun f vs => PySem.call f vs) := by
  refine Att.attach_call hn hdf fun w s₀ s₁ mg mb fa o pm cd doc a vs ns G Y ho hd hcd hmg hobj hints hlen hg => ?_
  have KX := hY w _ Y
  obtain ⟨fd, hb, hF⟩ := F w mg fa _ KX G.T.g hmg
  exact law_callG KX G.T.g G.T.b G.T.builtins G.T.nolimit hg hobj hints (Nat.le_trans hlen hn2) hr hF hb (fun H hO hS => hsp w H a ns hlen hO hS) fun H e s' => hCX w H s₁ e s'
theorem Fun.okG {P : Program} {w : World} {K : PySem.W.Frag} {mg : Str → Option Value} {base : Heap} {x qual : Str} {st : Stmt} {f : Addr} {fd : FuncData} {N ps : List Str} {k : Nat} {sp : Sp} (F : Fun K x qual st f fd) (S : FnScope N ps (defScope st)) (len : ∀ vs H Q E, sp vs H Q E → vs.length = ps.length)
    (hbody : ∀ (cdv : Value) (A : Around) (_ : (A.deeper (envOfC qual (defScope st) 0 f cdv)).guards = some []) (outer : List Env) (s : Shared) (H : Hp) (vs : List V) (Q : VK) (E : XK), Room k (A.deeper (envOfC qual (defScope st) s.heap.objs.size f cdv)) → sp vs H Q E →
      ∃ t, PSs (cxOf CX0 P w K mg base N qual (defScope st) f cdv A outer s H E).nox (defBody st) t ∧ t { nx := fun _ H' => Q .non H', rt := Q } (start N vs) H) : FnG P w K mg base CX0 (k + 1) f fd ps sp := by
  obtain ⟨oc, od, kV, doc, pm, an, cdv, ct, osl, rfl, lk, hcd⟩ := F.ex
  refine fn_ofG lk hcd S len fun A gA outer s H vs Q E hr hsp => ?_
  obtain ⟨t, h, q⟩ := hbody cdv A (by show A.guards = some []; exact gA) outer s H vs Q E hr hsp
  exact ⟨t, h.nox, q⟩
/-- repr of data -/
def rRepr (K : PySem.W.Frag) : List V → Hp → VK → Prop := fun xs H Q => ∃ (x : V) (d : PyData), xs = [x] ∧ Dp K H x d ∧ d.showable = true ∧ d.hasDict = false ∧ d.depth ≤ 60 ∧ d.shown.length ≤ sizeLine ∧ Q (.str d.shown) H
theorem call_repr {X : Cx} (hg : X.A.guards = some []) (hu : X.A.units + 64 < cLine) : CallR X (.builtin "repr") (rRepr X.K) := by
  intro pins s σ H xs us Q I r h
  obtain ⟨x, d, rfl, hd, h1, h2, h3, h4, q⟩ := h
  obtain ⟨u, rfl, ru⟩ := vals1 r
  cases d with
  | none => cases hd; cases ru; exact PySem.P.repr_of_none ⟨.str _, H, I.tok _, ⟨_, rfl⟩, q⟩
  | bool b =>
    cases hd; cases ru
    refine PySem.P.repr_of_bool ⟨.str _, H, I.tok _, ⟨_, rfl⟩, ?_⟩
    exact q
  | int i =>
    cases hd
    obtain ⟨t, rfl⟩ := ru
    exact PySem.P.repr_of_int (by simpa [PyData.showable] using h1) ⟨.str _, H, I.tok _, ⟨_, rfl⟩, q⟩
  | str z =>
    cases hd
    obtain ⟨t, rfl⟩ := ru
    exact PySem.P.repr_of_str ⟨.str _, H, I.tok _, ⟨_, rfl⟩, q⟩ h4
  | list ds =>
    obtain ⟨as, rd⟩ := Dp.reads I _ x u hd ru
    cases hd with
    | lst a1 a2 =>
      cases ru
      exact repr_of_reads' rd h1 (fun z => by rw [h2] at z; cases z) hg (by omega) (fun b o e => e) (fun h' u tk hk => ⟨.str _, H, I.kept (t' := tk) hk, ⟨_, rfl⟩, q⟩) h4
  | tuple ds =>
    obtain ⟨as, rd⟩ := Dp.reads I _ x u hd ru
    cases hd with
    | tup a1 a2 =>
      cases ru
      exact repr_of_reads' rd h1 (fun z => by rw [h2] at z; cases z) hg (by omega) (fun b o e => e) (fun h' u tk hk => ⟨.str _, H, I.kept (t' := tk) hk, ⟨_, rfl⟩, q⟩) h4
  | dict kvs => cases h2
end L2
namespace My
open PySem PySem.Spec PyProof.Rows L2 Evl
section
variable {K : PySem.W.Frag} {σ : L2.St} {H : Hp} {ta te : TE} {D : Ends} {tz : TS}
/-- tuple(..) of a new list -/
theorem eu_tupleN {xs : List V} (ha : EvL ta σ H xs) : EvU (tCB (fun vs H Q => ∃ p ys, vs = [V.ref p] ∧ ((SqL K H p ys ∧ ∀ l, H l = none → Q (.ref l) (upd H l (.tup ys))) ∨ (SqT K H p ys ∧ Q (.ref p) H))) (tCons ta tNil)) σ H xs := fun H1 e Q q =>
  ha H1 e _ fun p H2 hp e2 h2 => ⟨p, xs, rfl, .inl ⟨sq_of h2, fun l hl => q l _ (fresh_back e2 hl) (e2.trans (Ex.new hl)) upd_same⟩⟩
/-- repr of data: of a value that stands, of a new tuple -/
theorem ev_repr {x : V} {d : PyData} {ta : TA} (h : EvA ta σ H [x]) (hd : ∀ H1, Ex H H1 → Dp K H1 x d) (h1 : d.showable = true) (h2 : d.hasDict = false) (h3 : d.depth ≤ 60) (h4 : d.shown.length ≤ sizeLine) : Ev (tCB (rRepr K) ta) σ H (.str d.shown) := fun H1 e Q q =>
  h H1 e _ fun H2 e2 => ⟨x, d, rfl, hd H2 (e.trans e2), h1, h2, h3, h4, q H2 e2⟩
theorem ev_reprU {xs : List V} {d : PyData} (h : EvU te σ H xs) (hd : ∀ p H1, Ex H H1 → H1 p = some (.tup xs) → Dp K H1 (.ref p) d) (h1 : d.showable = true) (h2 : d.hasDict = false) (h3 : d.depth ≤ 60) (h4 : d.shown.length ≤ sizeLine) : Ev (tCB (rRepr K) (tCons te tNil)) σ H (.str d.shown) := fun H1 e Q q =>
  h H1 e _ fun p H2 _ e2 hp => ⟨.ref p, d, rfl, hd p H2 (e.trans e2) hp, h1, h2, h3, h4, q H2 e2⟩
theorem ev_reprL {xs : List V} {d : PyData} (h : EvL te σ H xs) (hd : ∀ p H1, Ex H H1 → H1 p = some (.lst xs) → Dp K H1 (.ref p) d) (h1 : d.showable = true) (h2 : d.hasDict = false) (h3 : d.depth ≤ 60) (h4 : d.shown.length ≤ sizeLine) : Ev (tCB (rRepr K) (tCons te tNil)) σ H (.str d.shown) := fun H1 e Q q =>
  h H1 e _ fun p H2 _ e2 hp => ⟨.ref p, d, rfl, hd p H2 (e.trans e2) hp, h1, h2, h3, h4, q H2 e2⟩
/-- the data of a list of pints -/
def pints (ns : List Int) : List PyData := ns.map PyData.int
theorem dpAll_ints {K : PySem.W.Frag} {H : Hp} : ∀ ns : List Int, DpAll K H (ns.map V.int) (pints ns)
  | [] => .nil
  | n :: ns => .cons (.int n) (dpAll_ints ns)
theorem dp_tupI {K : PySem.W.Frag} {H : Hp} {a : Addr} {ns : List Int} (h : SqT K H a (ns.map V.int)) : Dp K H (.ref a) (.tuple (pints ns)) := .tup h (dpAll_ints ns)
theorem dp_lstI {K : PySem.W.Frag} {H : Hp} {a : Addr} {ns : List Int} (h : SqL K H a (ns.map V.int)) : Dp K H (.ref a) (.list (pints ns)) := .lst h (dpAll_ints ns)
theorem log2_small {n : Int} (h : n.natAbs < 2 ^ 64) : n.natAbs.log2 < 1920 := Nat.lt_of_lt_of_le (PySem.Flt.log2_lt_of (by decide) h) (by decide)
theorem showAll_ints : ∀ ns : List Int, (∀ x ∈ ns, x.natAbs < 2 ^ 64) → PyData.showableAll (pints ns) = true
  | [], _ => rfl
  | n :: ns, h => by
    show (decide (n.natAbs.log2 < 1920) && PyData.showableAll (pints ns)) = true
    rw [decide_eq_true (log2_small (h n (List.mem_cons_self ..))), showAll_ints ns fun x hx => h x (List.mem_cons_of_mem _ hx)]; rfl
theorem dictAll_ints : ∀ ns : List Int, PyData.hasDictAll (pints ns) = false
  | [] => rfl
  | n :: ns => by show (PyData.hasDict (.int n) || PyData.hasDictAll (pints ns)) = false; rw [dictAll_ints ns]; rfl
theorem depthAll_ints : ∀ ns : List Int, PyData.depthAll (pints ns) = 0
  | [] => rfl
  | n :: ns => by show max 0 (PyData.depthAll (pints ns)) = 0; rw [depthAll_ints ns]; rfl
end
section
variable {X : Cx} {K : PySem.W.Frag}
theorem call_reprK (h : X.K = K) (hg : X.A.guards = some []) (hu : X.A.units + 64 < cLine) : CallR X (.builtin "repr") (rRepr K) := h ▸ call_repr hg hu
end
end My

namespace My
open PySem PySem.Spec PyProof.Rows L2 Evl
theorem shown_len : ∀ ns : List Int, (∀ x ∈ ns, x.natAbs < 2 ^ 64) → ((PyData.shownAll (pints ns)).map (·.length)).sum ≤ 100 * ns.length ∧ (PyData.shownAll (pints ns)).length = ns.length
  | [], _ => ⟨Nat.le_refl _, rfl⟩
  | n :: ns, h => by
    have ih := shown_len ns fun x hx => h x (List.mem_cons_of_mem _ hx)
    have h1 := int_text_length_le (k := 64) (by decide) (PySem.Flt.log2_lt_of (by decide) (h n (List.mem_cons_self ..)))
    have h2 : (PyData.shown (.int n)).length ≤ 65 := by
      show (Str.ofString (toString n)).length ≤ 65
      rw [PySem.ofString_length]; exact h1
    show (((PyData.shown (.int n)) :: PyData.shownAll (pints ns)).map (·.length)).sum ≤ 100 * (ns.length + 1) ∧ (PyData.shownAll (pints ns)).length + 1 = ns.length + 1
    rw [List.map_cons, List.sum_cons]
    omega
theorem shown_tup {ns : List Int} (h : ∀ x ∈ ns, x.natAbs < 2 ^ 64) (hl : ns.length ≤ 1000) : (PyData.shown (.tuple (pints ns))).length ≤ sizeLine := by
  have h1 := shown_len ns h
  have h2 := tupleText_len_le (PyData.shownAll (pints ns))
  show (tupleText (PyData.shownAll (pints ns))).length ≤ sizeLine
  refine Nat.le_trans h2 (Nat.le_trans (m := 103003) ?_ (by decide))
  omega
theorem shown_lst {ns : List Int} (h : ∀ x ∈ ns, x.natAbs < 2 ^ 64) (hl : ns.length ≤ 1000) : (PyData.shown (.list (pints ns))).length ≤ sizeLine := by
  have h1 := shown_len ns h
  have h2 := listText_len_le (PyData.shownAll (pints ns))
  show (listText (PyData.shownAll (pints ns))).length ≤ sizeLine
  refine Nat.le_trans h2 (Nat.le_trans (m := 103003) ?_ (by decide))
  omega
section
variable {K : PySem.W.Frag} {σ : L2.St} {H : Hp} {te ta : TE} {ns : List Int}
theorem ev_reprTI (h : EvU te σ H (ns.map V.int)) (hb : ∀ x ∈ ns, x.natAbs < 2 ^ 64) (hl : ns.length ≤ 1000) : Ev (tCB (rRepr K) (tCons te tNil)) σ H (.str (PyData.shown (.tuple (pints ns)))) :=
  ev_reprU h (fun p H1 _ hp => dp_tupI (st_of hp)) (showAll_ints ns hb) (dictAll_ints ns) (by show PyData.depthAll (pints ns) + 1 ≤ 60; rw [depthAll_ints]; decide) (shown_tup hb hl)
theorem ev_reprTK {p : Addr} (h : Ev te σ H (.ref p)) (hp : SqT K H p (ns.map V.int)) (hb : ∀ x ∈ ns, x.natAbs < 2 ^ 64) (hl : ns.length ≤ 1000) : Ev (tCB (rRepr K) (tCons te tNil)) σ H (.str (PyData.shown (.tuple (pints ns)))) :=
  ev_repr (ea_cons h ea_nil) (fun H1 e => dp_tupI (ex_t e hp)) (showAll_ints ns hb) (dictAll_ints ns) (by show PyData.depthAll (pints ns) + 1 ≤ 60; rw [depthAll_ints]; decide) (shown_tup hb hl)
theorem ev_reprLI (h : EvL te σ H (ns.map V.int)) (hb : ∀ x ∈ ns, x.natAbs < 2 ^ 64) (hl : ns.length ≤ 1000) : Ev (tCB (rRepr K) (tCons te tNil)) σ H (.str (PyData.shown (.list (pints ns)))) :=
  ev_reprL h (fun p H1 _ hp => dp_lstI (sq_of hp)) (showAll_ints ns hb) (dictAll_ints ns) (by show PyData.depthAll (pints ns) + 1 ≤ 60; rw [depthAll_ints]; decide) (shown_lst hb hl)
theorem ev_reprLK {p : Addr} (h : Ev te σ H (.ref p)) (hp : SqL K H p (ns.map V.int)) (hb : ∀ x ∈ ns, x.natAbs < 2 ^ 64) (hl : ns.length ≤ 1000) : Ev (tCB (rRepr K) (tCons te tNil)) σ H (.str (PyData.shown (.list (pints ns)))) :=
  ev_repr (ea_cons h ea_nil) (fun H1 e => dp_lstI (ex_l e hp)) (showAll_ints ns hb) (dictAll_ints ns) (by show PyData.depthAll (pints ns) + 1 ≤ 60; rw [depthAll_ints]; decide) (shown_lst hb hl)
theorem ev_reprInt {n : Int} (h : Ev te σ H (.int n)) (hb : n.natAbs < 2 ^ 64) : Ev (tCB (rRepr K) (tCons te tNil)) σ H (.str (PyData.shown (.int n))) :=
  ev_repr (ea_cons h ea_nil) (fun H1 e => .int n) (decide_eq_true (log2_small hb)) rfl (Nat.zero_le _) (int_text_fits (log2_small hb))
theorem ev_reprBl {b : Bool} (h : Ev te σ H (.bl b)) : Ev (tCB (rRepr K) (tCons te tNil)) σ H (.str (PyData.shown (.bool b))) :=
  ev_repr (ea_cons h ea_nil) (fun H1 e => .bl b) rfl rfl (Nat.zero_le _) (by cases b <;> decide)
theorem ev_reprNon (h : Ev te σ H .non) : Ev (tCB (rRepr K) (tCons te tNil)) σ H (.str (PyData.shown .none)) :=
  ev_repr (ea_cons h ea_nil) (fun H1 e => .non) rfl rfl (Nat.zero_le _) (by decide)
end
end My
/-! defs that may raise -/
namespace My
open PySem PySem.Spec PyProof.Rows L2 Evl
structure Ce (P : Program) (w : World) (K : PySem.W.Frag) (mg : Str → Option Value) (base : Heap) (k : Nat) (x : Str) (sp : Sp) : Prop where
  ex : ∃ (f : Addr) (fd : FuncData) (ps : List Str), FnOk P w K mg base (L2.CX P w) k f fd ps sp ∧ mg x = some (.ref f) ∧ PySem.W.keepIn K (.ref f) = true ∧ Binds K fd ps []
/-- a class of errors as the top has written it -/
structure ErrC (K : PySem.W.Frag) (mg : Str → Option Value) (x : Str) (C : Addr) : Prop where
  gP : mg x = some (.ref C)
  xP : PySem.W.excIn K C [.type "ValueError", .type "Exception", .type "BaseException", .type "object"] "ValueError.__new__" = true
  kP : PySem.W.keepIn K (.ref C) = true
  bP : PySem.W.subIn K (.ref C) (.type "BaseException") = some true
  tP : PySem.W.typeIn K (.ref C) = some (.type "type")
  eP : PySem.W.exmOne K (.ref C) (.ref C) = some true
theorem exm_self {K : PySem.W.Frag} {S : Addr} (h1 : PySem.W.subIn K (.ref S) (.type "BaseException") = some true) (h2 : PySem.W.isClsIn K S = true) (h3 : PySem.W.typeIn K (.ref S) = some (.type "type")) (h4 : PySem.W.subIn K (.ref S) (.ref S) = some true) :
    PySem.W.exmOne K (.ref S) (.ref S) = some true := by
  have e1 : (PySem.W.subIn K (.ref S) (.type "BaseException") == some true) = true := by rw [h1] <;> rfl
  have e2 : ((PySem.W.clsIn K S).isSome && PySem.W.typeIn K (.ref S) == some (.type "type")) = true := by
    have h2' : (PySem.W.clsIn K S).isSome = true := h2
    rw [h2', h3] <;> rfl
  show (if (PySem.W.subIn K (.ref S) (.type "BaseException") == some true) = true then (if ((PySem.W.clsIn K S).isSome && PySem.W.typeIn K (.ref S) == some (.type "type")) = true then PySem.W.subIn K (.ref S) (.ref S) else none) else none) = some true
  rw [if_pos e1, if_pos e2]
  exact h4
section
variable {P : Program} {w : World} {K : PySem.W.Frag} {mg : Str → Option Value} {base : Heap}
theorem Df.okX {x : Str} {st : Stmt} {N ps : List Str} {k : Nat} {sp : Sp} (D : Df K mg x st ps) (S : FnScope N ps (defScope st)) (len : ∀ vs H Q E, sp vs H Q E → vs.length = ps.length)
    (hbody : ∀ (f : Addr) (cdv : Value) (A : Around) (outer : List Env) (s : Shared) (H : Hp) (vs : List V) (Q : VK) (E : XK), Room k (A.deeper (envOfC x (defScope st) s.heap.objs.size f cdv)) → sp vs H Q E →
      ∃ t, PSs (cxOf (L2.CX P w) P w K mg base N x (defScope st) f cdv A outer s H E) (defBody st) t ∧ t { nx := fun _ H' => Q .non H', rt := Q } (start N vs) H) : Ce P w K mg base (k + 1) x sp := by
  obtain ⟨f, fd, F, m, b⟩ := D.ex
  exact ⟨f, fd, ps, F.okX S len (hbody f), m, F.kp, b⟩
end
section
variable {X : Cx} {p p2 pos pos2 : Pos} {e : Expr} {es : List Expr} {x m : Str} {k j i : Nat} {sp : Sp} {t : TA} {W : WX} {C : Addr}
theorem pe_ce (c : Ce X.prog X.w X.K X.mg X.base k x sp) (hr : Room j X.A) (hk : k ≤ j) (hg : Gl X x) (tk : Takes X W) (ha : PA X (e :: es) t)
    (hdb : (x == ("__debug__" : Str)) = false := by decide) (he : starEach (e :: es) X.env = (false, eval e X.env) :: starEach es X.env := by rfl) (hpl : (backTo pos (starEach es X.env)).any (·.1) = false := by rfl) :
    PE X (.Call (.Name x p) (e :: es) [] pos) (tCallS sp (WE W) t) := by
  obtain ⟨f, fd, ps, F, hm, kp, b⟩ := c.ex
  exact pe_callS F (hr.mono hk) hg hm kp b (fun σ => passAt tk σ) ha hdb he hpl
/-- where nothing is raised -/
theorem pe_ce0 (c : Ce X.prog X.w X.K X.mg X.base k x sp) (hr : Room j X.A) (hk : k ≤ j) (hg : Gl X x) (ha : PA X (e :: es) t)
    (hdb : (x == ("__debug__" : Str)) = false := by decide) (he : starEach (e :: es) X.env = (false, eval e X.env) :: starEach es X.env := by rfl) (hpl : (backTo pos (starEach es X.env)).any (·.1) = false := by rfl) :
    PE X (.Call (.Name x p) (e :: es) [] pos) (tCall sp [] L2.E0 t) := by
  obtain ⟨f, fd, ps, F, hm, kp, b⟩ := c.ex
  exact pe_call F (hr.mono hk) hg hm kp b .nil passL ha hdb he hpl
/-- raise X('..') -/
theorem ps_raiseC (hc : X.calm = true) (tk : Takes X W) (T : ErrC X.K X.mg x C) (hg : Gl X x) (hdb : (x == ("__debug__" : Str)) = false := by decide) :
    PS X (.Raise (some (.Call (.Name x p) [.Constant (.str m) i p2] [] pos)) none pos2) (fun _ σ H => W (.ref C) none σ H) :=
  ps_raise hc tk (pmk_own PySem.F.excBase_ValueError T.xP T.gP T.kP (raises_own T.bP T.tP) hg hdb)
end
section
variable {K : PySem.W.Frag} {σ : L2.St} {H : Hp} {ta tb te : TE} {x y v z : V} {D : Ends} {tz : TS} {sp : Sp} {E : L2.St → XK} {t : TA} {vs xs : List V}
theorem ev_callS (h : EvA t σ H vs) (hs : ∀ H1, Ex H H1 → ∀ Q : VK, RetV z H1 Q → sp vs H1 Q (E σ)) : Ev (tCallS sp E t) σ H z := fun H1 e Q q =>
  h H1 e _ fun H2 e2 => hs H2 (e.trans e2) Q fun H3 e3 => q H3 (e2.trans e3)
/-- it raises, whatever is asked behind -/
def EvX (te : TE) (σ : L2.St) (H : Hp) : Prop := ∀ H1, Ex H H1 → ∀ Q : VK, te σ H1 Q
theorem ex_callS (h : EvA t σ H vs) (hs : ∀ H1, Ex H H1 → ∀ Q : VK, sp vs H1 Q (E σ)) : EvX (tCallS sp E t) σ H := fun H1 e Q =>
  h H1 e _ fun H2 e2 => hs H2 (e.trans e2) Q
theorem q_dropX (h : EvX te σ H) : tSeq (tDrop te) tz D σ H := h H (Ex.refl H) _
theorem s_retX (h : EvX te σ H) : tRet te D σ H := h H (Ex.refl H) _
end
end My
namespace My
open PySem PySem.Spec PyProof.Rows L2 Evl
theorem s_dropX {te : TE} {σ : L2.St} {H : Hp} {D : Ends} (h : EvX te σ H) : tDrop te D σ H := h H (Ex.refl H) _
end My
namespace My
open PySem PySem.Spec PyProof.Rows L2 Evl
section
variable {X : Cx} {K : PySem.W.Frag} {σ : L2.St} {H : Hp} {te tl : TE} {t : TT}
theorem cr_allK (h : X.K = K) (hc : X.calm = true) : CallR X (.builtin "all") (rAll K) := h ▸ cr_all hc
/-- all([..]) of a new list of bools -/
theorem ev_allL {bs : List Bool} (h : EvL te σ H (bs.map V.bl)) : Ev (tCB (rAll K) (tCons te tNil)) σ H (.bl (bs.all id)) := fun H1 e Q q =>
  h H1 e _ fun p H2 hp e2 h2 => ⟨p, bs, rfl, sq_of h2, q H2 e2⟩
/-- a comprehension over a tuple -/
theorem el_lcT {a : Addr} {xs : List V} {j : Nat} {vs : List Nat} (f : Nat → Bool) (v : Nat → V) (h : Ev tl σ H (.ref a)) (hx : SqT K H a xs) (hz : xs.length ≤ 40000) (hw : ∀ x, wipe ((wipe σ vs).set j (some x)) vs = wipe σ vs)
    (ht : ∀ (i : Nat) (x : V) H1, Ex H H1 → xs[i]? = some x → EvT t ((wipe σ vs).set j (some x)) H1 (f i)) (he : ∀ (i : Nat) (x : V) H1, Ex H H1 → xs[i]? = some x → f i = true → Ev te ((wipe σ vs).set j (some x)) H1 (v i)) :
    EvL (tLc (iTup K tl) (gName j) t te vs) σ H (given xs.length f v) := fun H0 e Q q =>
  lcW (gets_tup (h.mono e) (ex_t e hx)) (walk_tup (xs := xs)) (fun D i H' => Cw H0 f v D i H') (fun D H1 e1 hD => ⟨fresh_back e1 hD, e1.mut (fresh_back e1 hD), upd_same⟩) (fun D i H' _ p => ex_t (e.trans p.2.1) hx)
    (fun D i x H' H2 hi p y => by
      obtain ⟨rfl, hv⟩ := y
      exact ⟨hw x, cw_turn p (by omega) (ht i x H0 e hv) (fun hf => he i x H0 e hv hf)⟩) (fun D H' p => q D H' p.1 p.2.1 p.2.2)
theorem cut_neg1 (xs : List V) : cutV xs none (some (-1)) = xs.dropLast := by
  unfold cutV
  rw [HT.sIx_none]
  show ((xs.drop 0).take (HT.sIx xs.length xs.length (some (-1)) - 0)) = xs.dropLast
  have e : HT.sIx xs.length xs.length (some (-1)) = xs.length - 1 := by
    show (if (-1 : Int) < 0 then ((-1 : Int) + (xs.length : Int)).toNat else min (-1 : Int).toNat xs.length) = _
    rw [if_pos (by decide)]; omega
  rw [e, List.drop_zero, Nat.sub_zero, List.dropLast_eq_take]
theorem given_const {n : Nat} {v : V} : given n (fun _ => true) (fun _ => v) = List.replicate n v := by
  unfold given
  rw [List.filter_eq_self.mpr (fun _ _ => rfl)]
  apply List.ext_getElem?
  intro i
  rw [List.getElem?_map, List.getElem?_replicate]
  by_cases h : i < n
  · rw [List.getElem?_range h, if_pos h]; rfl
  · rw [List.getElem?_eq_none (by simpa using Nat.not_lt.mp h), if_neg h]; rfl
end
end My
namespace My
open PySem PySem.Spec PyProof.Rows L2 Evl
theorem ev_lenN' {K : PySem.W.Frag} {σ : L2.St} {H : Hp} {ta : TE} {xs : List V} (ha : EvL ta σ H xs) : Ev (tCB (fun vs H Q => ∃ p ys, vs = [V.ref p] ∧ (SqL K H p ys ∨ SqT K H p ys) ∧ Q (.int (ys.length : Int)) H) (tCons ta tNil)) σ H (.int (xs.length : Int)) := fun H1 e Q q =>
  ha H1 e _ fun p H2 hp e2 h2 => ⟨p, xs, rfl, .inl (sq_of h2), q H2 e2⟩
end My
/-! values that are data: kept as the heap grows, compared at any depth -/
namespace My
open PySem PySem.Spec PyProof.Rows L2 Evl
mutual
theorem dp_mono {K : PySem.W.Frag} {H H' : Hp} (e : Ex H H') : ∀ (d : PyData) (v : V), Dp K H v d → Dp K H' v d
  | .none, _, h => by cases h; exact .non
  | .bool b, _, h => by cases h; exact .bl b
  | .int i, _, h => by cases h; exact .int i
  | .str x, _, h => by cases h; exact .str x
  | .list ds, _, h => by cases h with | lst h1 h2 => exact .lst (ex_l e h1) (dpAll_mono e ds _ h2)
  | .tuple ds, _, h => by cases h with | tup h1 h2 => exact .tup (ex_t e h1) (dpAll_mono e ds _ h2)
  | .dict _, _, h => by cases h
theorem dpAll_mono {K : PySem.W.Frag} {H H' : Hp} (e : Ex H H') : ∀ (ds : List PyData) (vs : List V), DpAll K H vs ds → DpAll K H' vs ds
  | [], _, h => by cases h; exact .nil
  | d :: ds, _, h => by cases h with | cons h1 h2 => exact .cons (dp_mono e d _ h1) (dpAll_mono e ds _ h2)
end
/-- data of ints, none, plain texts, lists and tuples -/
def txtOk (s : Str) : Bool := PyData.canLay0 (.str s)
mutual
def plD : PyData → Bool
  | .none => true
  | .bool _ => false
  | .int _ => true
  | .str s => txtOk s
  | .list ds => plDA ds
  | .tuple ds => plDA ds
  | .dict _ => false
def plDA : List PyData → Bool
  | [] => true
  | d :: ds => plD d && plDA ds
end
mutual
theorem plD_lay : ∀ d : PyData, plD d = true → PyData.canLay0 d = true
  | .none, _ => rfl
  | .bool _, h => nomatch h
  | .int _, _ => rfl
  | .str s, h => h
  | .list ds, h => by have := plDA_lay ds h; simpa [PyData.canLay0] using this
  | .tuple ds, h => by have := plDA_lay ds h; simpa [PyData.canLay0] using this
  | .dict _, h => nomatch h
theorem plDA_lay : ∀ ds : List PyData, plDA ds = true → PyData.canLayAll0 ds = true
  | [], _ => rfl
  | d :: ds, h => by
    have h' : plD d = true ∧ plDA ds = true := by simpa [plDA] using h
    simp only [PyData.canLayAll0, plD_lay d h'.1, plDA_lay ds h'.2, Bool.and_self]
end
mutual
theorem eqv_pl : ∀ d e : PyData, plD d = true → plD e = true → (PyData.eqv d e = true ↔ d = e)
  | .none, e, _, he => by cases e <;> simp [PyData.eqv]
  | .bool _, _, h, _ => nomatch h
  | .int i, e, _, he => by
    cases e with
    | bool b => exact nomatch he
    | _ => simp [PyData.eqv]
  | .str s, e, _, he => by cases e <;> simp [PyData.eqv]
  | .list ds, e, h, he => by
    cases e with
    | list es => rw [PyData.eqv, eqvAll_pl ds es h he]; exact ⟨fun z => by rw [z], fun z => by cases z; rfl⟩
    | _ => simp [PyData.eqv]
  | .tuple ds, e, h, he => by
    cases e with
    | tuple es => rw [PyData.eqv, eqvAll_pl ds es h he]; exact ⟨fun z => by rw [z], fun z => by cases z; rfl⟩
    | _ => simp [PyData.eqv]
  | .dict _, _, h, _ => nomatch h
theorem eqvAll_pl : ∀ ds es : List PyData, plDA ds = true → plDA es = true → (PyData.eqvAll ds es = true ↔ ds = es)
  | [], [], _, _ => by simp [PyData.eqvAll]
  | [], e :: es, _, _ => by simp [PyData.eqvAll]
  | d :: ds, [], _, _ => by simp [PyData.eqvAll]
  | d :: ds, e :: es, h, he => by
    have h' : plD d = true ∧ plDA ds = true := by simpa [plDA] using h
    have he' : plD e = true ∧ plDA es = true := by simpa [plDA] using he
    rw [PyData.eqvAll, Bool.and_eq_true, eqv_pl d e h'.1 he'.1, eqvAll_pl ds es h'.2 he'.2]
    exact ⟨fun ⟨a, b⟩ => by rw [a, b], fun z => by cases z; exact ⟨rfl, rfl⟩⟩
end
theorem eqv_dec {d e : PyData} (h : plD d = true) (he : plD e = true) {b : Bool} (hb : b = true ↔ d = e) : PyData.eqv d e = b := by
  cases b with
  | true => exact (eqv_pl d e h he).mpr (hb.mp rfl)
  | false =>
    cases h1 : PyData.eqv d e with
    | false => rfl
    | true => exact absurd (hb.mpr ((eqv_pl d e h he).mp h1)) (by decide)
theorem shaped_of {d : PyData} (h : plD d = true) (hd : d.depth ≤ 64) : SeqAt.shaped d = true := by
  unfold SeqAt.shaped
  rw [plD_lay d h, decide_eq_true hd]; rfl
theorem plD_ints (ns : List Int) : plDA (pints ns) = true := by
  induction ns with
  | nil => rfl
  | cons n ns ih => show (plD (.int n) && plDA (pints ns)) = true; rw [ih]; rfl
/-- of H what stood there, of H2 what is new since H1 -/
def Nw (H H1 H2 : Hp) : Hp := fun a => match H1 a with
  | none => H2 a
  | some _ => H a
theorem nw_new {H H1 H2 : Hp} {a : Addr} (h : H1 a = none) : Nw H H1 H2 a = H2 a := by unfold Nw; rw [h]
theorem nw_old {H H1 H2 : Hp} {a : Addr} {o : HO} (h : H1 a = some o) : Nw H H1 H2 a = H a := by unfold Nw; rw [h]
theorem nw_ex {H H1 H2 : Hp} (e : Ex H H1) (e2 : Ex H1 H2) : Ex (Nw H H1 H2) H2 := fun a o h => by
  cases h1 : H1 a with
  | none => rw [nw_new h1] at h; exact h
  | some u => rw [nw_old h1] at h; exact e2 a o (e a o h)
theorem nw_base {H H1 H2 : Hp} (e : Ex H H1) : Ex H (Nw H H1 H2) := fun a o h => by rw [nw_old (e a o h)]; exact h
theorem nw_up {H H' H1 H2 : Hp} (e : Ex H H') : Ex (Nw H H1 H2) (Nw H' H1 H2) := fun a o h => by
  cases h1 : H1 a with
  | none => rw [nw_new h1] at h ⊢; exact h
  | some u => rw [nw_old h1] at h ⊢; exact e a o h
/-- what was new earlier is new later on -/
theorem nw_on {H H1 H2 H3 : Hp} (e : Ex H2 H3) : Ex (Nw H H1 H2) (Nw H H1 H3) := fun a o h => by
  cases h1 : H1 a with
  | none => rw [nw_new h1] at h ⊢; exact e a o h
  | some u => rw [nw_old h1] at h ⊢; exact h
theorem nw_back {H H1 H2 H3 : Hp} (e1 : Ex H H1) (e2 : Ex H1 H2) : Ex (Nw H H2 H3) (Nw H H1 H3) := fun a o h => by
  cases h2 : H2 a with
  | none =>
    rw [nw_new h2] at h
    rw [nw_new (fresh_back e2 h2)]; exact h
  | some u =>
    rw [nw_old h2] at h
    rw [nw_old (e1 a o h)]; exact h
/-- new since H2 ahead of what was new then is new since H1 -/
theorem nw_trans {H H1 H2 H3 : Hp} (e1 : Ex H H1) (e2 : Ex H1 H2) (e3 : Ex H2 H3) : Ex (Nw (Nw H H1 H2) H2 H3) (Nw H H1 H3) := fun a o h => by
  cases h2 : H2 a with
  | none =>
    rw [nw_new h2] at h
    rw [nw_new (fresh_back e2 h2)]; exact h
  | some u =>
    rw [nw_old h2] at h
    exact nw_on e3 a o h
/-- what is new lies apart from a list that H did not know and that is there now -/
theorem nw_apart {H H1 H2 : Hp} {D : Addr} {u o : HO} (e : Ex H H1) (e2 : Ex H1 H2) (hD : H D = none) (h1 : H1 D = some u) : Ex (Nw H H1 H2) (upd H2 D o) := fun a x h => by
  have hne : a ≠ D := fun z => by
    rw [z, nw_old h1, hD] at h; cases h
  rw [upd_ne hne]
  exact nw_ex e e2 a x h
/-- what evaluates to data; the arguments of a display that do: made of what stood in H, and of new objects -/
def EvD (K : PySem.W.Frag) (te : TE) (σ : L2.St) (H : Hp) (d : PyData) : Prop := ∀ H1, Ex H H1 → ∀ Q : VK, (∀ v H2, Ex H1 H2 → Dp K (Nw H H1 H2) v d → Q v H2) → te σ H1 Q
def EvDA (K : PySem.W.Frag) (ta : TA) (σ : L2.St) (H : Hp) (ds : List PyData) : Prop := ∀ H1, Ex H H1 → ∀ Q : List V → Hp → Prop, (∀ vs H2, Ex H1 H2 → DpAll K (Nw H H1 H2) vs ds → Q vs H2) → ta σ H1 Q
/-- data returned: made of what stands in B, and of new objects -/
def RetD (K : PySem.W.Frag) (B : Hp) (d : PyData) (H : Hp) (Q : VK) : Prop := ∀ v H2, Ex H H2 → Dp K (Nw B H H2) v d → Q v H2
theorem dpAll_len {K : PySem.W.Frag} {H : Hp} : ∀ (ds : List PyData) (vs : List V), DpAll K H vs ds → vs.length = ds.length
  | [], _, h => by cases h; rfl
  | d :: ds, _, h => by cases h with | cons _ h2 => exact congrArg (· + 1) (dpAll_len ds _ h2)
theorem dpAll_get {K : PySem.W.Frag} {H : Hp} : ∀ (ds : List PyData) (vs : List V) (i : Nat) (v : V), DpAll K H vs ds → vs[i]? = some v → ∃ d, ds[i]? = some d ∧ Dp K H v d
  | [], _, i, v, h, e => by cases h; simp at e
  | d :: ds, _, 0, v, h, e => by cases h with | cons h1 h2 => simp at e; subst e; exact ⟨d, rfl, h1⟩
  | d :: ds, _, i + 1, v, h, e => by
    cases h with
    | cons h1 h2 =>
      obtain ⟨d', h3, h4⟩ := dpAll_get ds _ i v h2 (by simpa using e)
      exact ⟨d', by simpa using h3, h4⟩
theorem dpAll_at {K : PySem.W.Frag} {H : Hp} {ds : List PyData} {vs : List V} {i : Nat} {d : PyData} (h : DpAll K H vs ds) (e : ds[i]? = some d) : ∃ v, vs[i]? = some v ∧ Dp K H v d := by
  have hl := dpAll_len _ _ h
  have hi := (List.getElem?_eq_some_iff.mp e).1
  have h1 := List.getElem?_eq_getElem (l := vs) (i := i) (by omega)
  obtain ⟨d', h2, h3⟩ := dpAll_get _ _ i _ h h1
  rw [e] at h2
  exact ⟨_, h1, by rw [Option.some.inj h2]; exact h3⟩
theorem dpAll_snoc {K : PySem.W.Frag} {H : Hp} {v : V} {d : PyData} : ∀ {ds : List PyData} {vs : List V}, DpAll K H vs ds → Dp K H v d → DpAll K H (vs ++ [v]) (ds ++ [d])
  | [], _, h, hv => by cases h; exact .cons hv .nil
  | d' :: ds, _, h, hv => by cases h with | cons h1 h2 => exact .cons h1 (dpAll_snoc h2 hv)
section
variable {K : PySem.W.Frag} {σ : L2.St} {H : Hp} {ta tb te : TE} {x y z v : V} {D : Ends} {tz tu : TS}
theorem EvD.mono {H' : Hp} {d : PyData} (e : Ex H H') (h : EvD K te σ H d) : EvD K te σ H' d := fun H1 a Q q => h H1 (e.trans a) Q fun v H2 e2 hv => q v H2 e2 (dp_mono (nw_up e) _ _ hv)
theorem evd_of {d : PyData} (h : Ev te σ H v) (hd : Dp K H v d) : EvD K te σ H d := fun H1 e Q q => h H1 e _ fun H2 e2 => q v H2 e2 (dp_mono (nw_base e) _ _ hd)
theorem evd_int {n : Int} (h : Ev te σ H (.int n)) : EvD K te σ H (.int n) := evd_of h (.int n)
theorem evd_non (h : Ev te σ H .non) : EvD K te σ H .none := evd_of h .non
theorem evd_str {x : Str} (h : Ev te σ H (.str x)) : EvD K te σ H (.str x) := evd_of h (.str x)
theorem evd_U {xs : List V} {ds : List PyData} (h : EvU te σ H xs) (hd : DpAll K H xs ds) : EvD K te σ H (.tuple ds) := fun H1 e Q q => h H1 e _ fun p H2 np e2 hp => q (.ref p) H2 e2 (.tup (st_of (by rw [nw_new np]; exact hp)) (dpAll_mono (nw_base e) _ _ hd))
theorem evd_UI {ns : List Int} (h : EvU te σ H (ns.map V.int)) : EvD K te σ H (.tuple (pints ns)) := evd_U h (dpAll_ints ns)
theorem evd_L {xs : List V} {ds : List PyData} (h : EvL te σ H xs) (hd : DpAll K H xs ds) : EvD K te σ H (.list ds) := fun H1 e Q q => h H1 e _ fun p H2 np e2 hp => q (.ref p) H2 e2 (.lst (sq_of (by rw [nw_new np]; exact hp)) (dpAll_mono (nw_base e) _ _ hd))
theorem evd_LI {ns : List Int} (h : EvL te σ H (ns.map V.int)) : EvD K te σ H (.list (pints ns)) := evd_L h (dpAll_ints ns)
theorem evda_nil : EvDA K tNil σ H [] := fun H1 _ Q q => q _ H1 (Ex.refl H1) .nil
theorem evda_cons {d : PyData} {ds : List PyData} {tr : TA} (h : EvD K te σ H d) (hr : EvDA K tr σ H ds) : EvDA K (tCons te tr) σ H (d :: ds) := fun H1 e Q q =>
  h H1 e _ fun v H2 e2 hv => hr H2 (e.trans e2) _ fun vs H3 e3 hvs => q _ H3 (e2.trans e3) (.cons (dp_mono (nw_on e3) _ _ hv) (dpAll_mono (nw_back e e2) _ _ hvs))
theorem evd_tup {ds : List PyData} {tr : TA} (h : EvDA K tr σ H ds) (hl : ds.length ≤ 100000) : EvD K (tTup tr) σ H (.tuple ds) := fun H1 e Q q =>
  h H1 e _ fun vs H2 e2 hvs => ⟨sz_of (by rw [dpAll_len _ _ hvs]; exact hl), fun p hp => q (.ref p) _ (e2.trans (Ex.new hp)) (.tup (st_of (by rw [nw_new (fresh_back e2 hp)]; exact upd_same)) (dpAll_mono (nw_on (Ex.new hp)) _ _ hvs))⟩
theorem evd_lst {ds : List PyData} {tr : TA} (h : EvDA K tr σ H ds) (hl : ds.length ≤ 100000) : EvD K (tLst tr) σ H (.list ds) := fun H1 e Q q =>
  h H1 e _ fun vs H2 e2 hvs => ⟨sz_of (by rw [dpAll_len _ _ hvs]; exact hl), fun p hp => q (.ref p) _ (e2.trans (Ex.new hp)) (.lst (sq_of (by rw [nw_new (fresh_back e2 hp)]; exact upd_same)) (dpAll_mono (nw_on (Ex.new hp)) _ _ hvs))⟩
/-- a call: what it says of its arguments, made of B -/
theorem evd_call {sp : Sp} {E : XK} {t : TA} {ds : List PyData} {d : PyData} (h : EvDA K t σ H ds) (hs : ∀ vs H1 B, Ex H B → Ex B H1 → DpAll K B vs ds → ∀ Q : VK, RetD K B d H1 Q → ∀ E, sp (vs ++ []) H1 Q E) : EvD K (tCall sp [] E t) σ H d := fun H1 e Q q =>
  h H1 e _ fun vs H2 e2 hvs => hs vs H2 (Nw H H1 H2) (nw_base e) (nw_ex e e2) hvs Q (fun v H3 e3 hv => q v H3 (e2.trans e3) (dp_mono (nw_trans e e2 e3) _ _ hv)) E
theorem ev_callD {sp : Sp} {E : XK} {t : TA} {ds : List PyData} (h : EvDA K t σ H ds) (hs : ∀ vs H1 B, Ex H B → Ex B H1 → DpAll K B vs ds → ∀ Q : VK, RetV z H1 Q → ∀ E, sp (vs ++ []) H1 Q E) : Ev (tCall sp [] E t) σ H z := fun H1 e Q q =>
  h H1 e _ fun vs H2 e2 hvs => hs vs H2 (Nw H H1 H2) (nw_base e) (nw_ex e e2) hvs Q (fun H3 e3 => q H3 (e2.trans e3)) E
theorem ev_eqD {d e : PyData} {b : Bool} (h : EvD K ta σ H d) (h2 : EvD K tb σ H e) (pd : plD d = true) (pe : plD e = true) (nd : d.depth ≤ 64) (ne : e.depth ≤ 64) (hb : b = true ↔ d = e) : Ev (tOp (rEqD K) ta tb) σ H (.bl b) := fun H1 ex Q q =>
  h H1 ex _ fun v H2 e2 hv => h2 H2 (ex.trans e2) _ fun w H3 e3 hw => ⟨d, e, dp_mono ((nw_ex ex e2).trans e3) _ _ hv, dp_mono (nw_ex (ex.trans e2) e3) _ _ hw, shaped_of pd nd, shaped_of pe ne, by rw [eqv_dec pd pe hb]; exact q H3 (e2.trans e3)⟩
theorem ev_neD {d e : PyData} {b : Bool} (h : EvD K ta σ H d) (h2 : EvD K tb σ H e) (pd : plD d = true) (pe : plD e = true) (nd : d.depth ≤ 64) (ne : e.depth ≤ 64) (hb : b = true ↔ d = e) : Ev (tOp (rNeD K) ta tb) σ H (.bl (!b)) := fun H1 ex Q q =>
  h H1 ex _ fun v H2 e2 hv => h2 H2 (ex.trans e2) _ fun w H3 e3 hw => ⟨d, e, dp_mono ((nw_ex ex e2).trans e3) _ _ hv, dp_mono (nw_ex (ex.trans e2) e3) _ _ hw, shaped_of pd nd, shaped_of pe ne, by rw [eqv_dec pd pe hb]; exact q H3 (e2.trans e3)⟩
/-- i = (x, y, new tuple) -/
theorem q_asgT3 {i : Nat} {t1 t2 t3 : TE} {zs : List V} (h1 : Ev t1 σ H x) (h2 : Ev t2 σ H y) (h3 : EvU t3 σ H zs) (k : ∀ p o H1, Ex H H1 → H1 o = some (.tup zs) → H1 p = some (.tup [x, y, .ref o]) → tz D (σ.set i (some (.ref p))) H1) : tSeq (tAsg (tTup (tCons t1 (tCons t2 (tCons t3 tNil)))) (gName i)) tz D σ H :=
  h1 H (Ex.refl H) _ fun H1 e1 => h2 H1 e1 _ fun H2 e2 => h3 H2 (e1.trans e2) _ fun o H3 no e3 ho => ⟨sz_of (by show 3 ≤ 100000; decide), fun p hp => k p o _ (((e1.trans e2).trans e3).trans (Ex.new hp)) (Ex.new hp o _ ho) upd_same⟩
theorem q_asgD {i : Nat} {d : PyData} (h : EvD K te σ H d) (k : ∀ v H1, Ex H H1 → Dp K H1 v d → tz D (σ.set i (some v)) H1) : tSeq (tAsg te (gName i)) tz D σ H := h H (Ex.refl H) _ fun v H2 e hv => k v H2 e (dp_mono (nw_ex (Ex.refl H) e) _ _ hv)
theorem s_asgD {i : Nat} {d : PyData} (h : EvD K te σ H d) (k : ∀ v H1, Ex H H1 → Dp K H1 v d → D.nx (σ.set i (some v)) H1) : tAsg te (gName i) D σ H := h H (Ex.refl H) _ fun v H2 e hv => k v H2 e (dp_mono (nw_ex (Ex.refl H) e) _ _ hv)
theorem s_retD {d : PyData} (h : EvD K te σ H d) (k : ∀ v H1, Ex H H1 → Dp K (Nw H H H1) v d → D.rt v H1) : tRet te D σ H := h H (Ex.refl H) _ k
/-- a list of data made by a comprehension -/
theorem evd_lc {wi : TI} {J : It} {n j : Nat} {G : Hp → Prop} {Y : Nat → Hp → V → Hp → Prop} {t : TT} {vs : List Nat} (f : Nat → Bool) (d : Nat → PyData) (h : ∀ H1, Ex H H1 → Gets wi σ H1 J) (w : Walk J n G Y) (hG : ∀ H', Ex H H' → G H') (hn : n ≤ 40000) (hy : ∀ i H1 x H2, Y i H1 x H2 → H2 = H1) (hw : ∀ x, wipe ((wipe σ vs).set j (some x)) vs = wipe σ vs)
    (ht : ∀ i x H1, i < n → Ex H H1 → Y i H1 x H1 → EvT t ((wipe σ vs).set j (some x)) H (f i) ∧ (f i = true → EvD K te ((wipe σ vs).set j (some x)) H (d i))) :
    EvD K (tLc wi (gName j) t te vs) σ H (.list (((List.range n).filter f).map d)) := fun H0 e Q q =>
  lcW (h H0 e) w (fun D i H' => H0 D = none ∧ Ex H0 H' ∧ ∃ us, H' D = some (.lst us) ∧ us.length ≤ i ∧ DpAll K (fun a => if a = D then none else Nw H H0 H' a) us (((List.range i).filter f).map d))
    (fun D H1 e1 hD => ⟨fresh_back e1 hD, e1.mut (fresh_back e1 hD), [], upd_same, Nat.le_refl _, .nil⟩) (fun D i H' _ p => hG _ (e.trans p.2.1))
    (fun D i x H' H2 hi p y => by
      have := hy _ _ _ _ y
      subst this
      obtain ⟨hD, eD, us, hus, hul, hdp⟩ := p
      obtain ⟨h1, h2⟩ := ht i x _ hi (e.trans eD) y
      refine ⟨hw x, h1 _ (e.trans eD) _ fun H3 e3 => ?_⟩
      cases hf : f i with
      | false =>
        show _ ∧ _
        refine ⟨hD, eD.trans e3, us, e3 D _ hus, Nat.le_succ_of_le hul, ?_⟩
        rw [List.range_succ, List.filter_append, List.filter_cons, if_neg (by rw [hf]; decide), List.filter_nil, List.append_nil]
        refine dpAll_mono (fun a o ha => ?_) _ _ hdp
        by_cases hz : a = D
        · rw [if_pos hz] at ha; cases ha
        · rw [if_neg hz] at ha ⊢; exact nw_on e3 a o ha
      | true =>
        show te _ H3 _
        refine h2 hf H3 ((e.trans eD).trans e3) _ fun v H4 e4 hv => ?_
        have e04 := (eD.trans e3).trans e4
        refine ⟨us, e4 D _ (e3 D _ hus), sz_lt (by omega), hD, e04.mut hD, us ++ [v], upd_same, by rw [List.length_append]; show _ + 1 ≤ _; omega, ?_⟩
        rw [List.range_succ, List.filter_append, List.filter_cons, if_pos hf, List.filter_nil, List.map_append]
        have hHD : H D = none := fresh_back e hD
        refine dpAll_snoc (dpAll_mono (fun a o ha => ?_) _ _ hdp) (dp_mono (fun a o ha => ?_) _ _ hv)
        · by_cases hz : a = D
          · rw [if_pos hz] at ha; cases ha
          · rw [if_neg hz] at ha ⊢
            cases h0 : H0 a with
            | none => rw [nw_new h0] at ha ⊢; rw [upd_ne hz]; exact e4 a _ (e3 a _ ha)
            | some u => rw [nw_old h0] at ha ⊢; exact ha
        · by_cases hz : a = D
          · rw [hz, nw_old (e3 D _ hus), hHD] at ha; cases ha
          · rw [if_neg hz]
            cases h3 : H3 a with
            | none =>
              rw [nw_new h3] at ha
              rw [nw_new (fresh_back (eD.trans e3) h3), upd_ne hz]; exact ha
            | some u =>
              rw [nw_old h3] at ha
              rw [nw_old (e a _ ha)]; exact ha)
    (fun D H' p => by
      obtain ⟨hD, eD, us, hus, _, hdp⟩ := p
      refine q (.ref D) H' eD (.lst (sq_of (by rw [nw_new hD]; exact hus)) (dpAll_mono (fun a o ha => ?_) _ _ hdp))
      by_cases hz : a = D
      · rw [if_pos hz] at ha; cases ha
      · rw [if_neg hz] at ha; exact ha)
end
section
variable {X : Cx} {K : PySem.W.Frag}
theorem op_eqDK (h : X.K = K) (hu : X.A.units + 64 < cLine) : OpR X (compareOp .Eq) (rEqD K) := h ▸ op_eqD hu
theorem op_neDK (h : X.K = K) (hu : X.A.units + 64 < cLine) : OpR X (compareOp .NotEq) (rNeD K) := h ▸ op_neD hu
end
theorem depth_ints (ns : List Int) : (PyData.tuple (pints ns)).depth = 1 := by show PyData.depthAll (pints ns) + 1 = 1; rw [depthAll_ints]
theorem depthAll_le {n : Nat} : ∀ {ds : List PyData}, (∀ d ∈ ds, d.depth ≤ n) → PyData.depthAll ds ≤ n
  | [], _ => Nat.zero_le _
  | d :: ds, h => by
    show max d.depth (PyData.depthAll ds) ≤ n
    exact Nat.max_le.mpr ⟨h d (List.mem_cons_self ..), depthAll_le fun x hx => h x (List.mem_cons_of_mem _ hx)⟩
theorem plDA_of : ∀ {ds : List PyData}, (∀ d ∈ ds, plD d = true) → plDA ds = true
  | [], _ => rfl
  | d :: ds, h => by show (plD d && plDA ds) = true; rw [h d (List.mem_cons_self ..), plDA_of fun x hx => h x (List.mem_cons_of_mem _ hx)]; rfl
end My
set_option maxHeartbeats 2000000
/-! all(.. for x in xs), xs a list or a tuple, the element a call of a def: the table of code objects is told by what is true of it, so that the heap stays -/
namespace My
open PySem PySem.Spec PyProof.Rows L2 Evl
/-- a table of code objects at P, whatever stands in it -/
def TabP (P : Addr) (h : Heap) : Prop := ∃ ps : Array Value, h.get? P = some { cls := .none, data := .fields ps } ∧ TriplesOk ps.toList
def tabO (P : Addr) : HO := .ext (TabP P)
section
variable {X : Cx} {pins : List (Addr × Obj)} {σ : L2.St} {H : Hp} {s : Shared}
theorem tab_hok {Pr : Program} {w : World} {H : Hp} {h : Heap} {P : Addr} (q : TabP P h) : ObjOk Pr w H h P (tabO P) := by
  obtain ⟨ps, e, t⟩ := q
  exact ⟨⟨ps, e, t⟩, ⟨_, e⟩, fun h1 h2 ⟨qs, e1, t1⟩ k => ⟨qs, k _ e1, t1⟩⟩
theorem tab_at (I : Inv X pins σ H s) {P : Addr} (hP : H P = some (tabO P)) : TabP P s.heap := (I.hok P _ hP).1
theorem tab_inv {P : Addr} {h' : Heap} {g' : Array GenState} {d' : Drawn} {t' : Nat} (I : Inv X pins σ H s) (hP : H P = some (tabO P)) (k : ∀ b o, b ≠ P → s.heap.get? b = some o → h'.get? b = some o) (hm : TabP P h') (hg : AllBare g') :
    Inv X pins σ H { s with heap := h', gens := g', drawn := d', toks := t' } := by
  have away : ∀ b, H b = none → b ≠ P := fun b e z => by rw [z, hP] at e; cases e
  have own_away : ∀ b c, H b = some (.own c) → b ≠ P := fun b c e z => by
    rw [z, hP] at e
    cases e
  refine I.step (H' := H) (ch := []) (g' := g') (d' := d') (fun b z => absurd z List.not_mem_nil) (fun b o _ _ _ e n => k b o (away b n) e) (fun b o _ _ _ e n => ⟨_, k b o (away b n) e⟩) (fun b o _ _ n => n) ?_ (fun b xs e => e) (fun b o u e => e) (fun b ps e => ⟨#[], by rw [e, Array.append_empty]⟩) ?_ ?_ hg
  · intro b o _ e
    by_cases z : b = P
    · obtain ⟨ps, q, _⟩ := hm
      exact ⟨_, by rw [z]; exact q⟩
    · exact ⟨o, k b o z e⟩
  · rintro m ⟨ob, es, ep, ho, r⟩
    exact ⟨ob, es, ep, k _ ob (away _ I.free) ho, r⟩
  · intro b u e
    by_cases z : b = P
    · rw [z] at e ⊢
      rw [hP] at e
      cases e
      exact tab_hok hm
    · refine (I.hok b u e).stay (fun d v q e1 => k d v ?_ e1) (fun d q => q) (fun d xs q => q)
      rcases q with q | q
      · rw [q]; exact z
      · exact own_away d _ q
end
/-- in the frame of a generator expression: what a value of such kind gives -/
def EltV (X : Cx) (scope : Scope) (x : Str) (elt : Expr) (Pz : V → Prop) (f : V → Bool) : Prop :=
  ∀ (cl : List (Str × Addr)) (C : Addr) (code : Value) (bi : Addr) (A : Around) (E : Value → Shared → Prop) (v : V) (u : Value) (s : Shared) (m : Str → Option Value), L2.Mod X.K X.mg X.base → X.env.globals = mainGlobals → A.handled = none → A.depth ≤ X.A.depth + 1 → A.units ≤ X.A.units + 8 → Pz v → RelV v u → (∀ b o, X.base.get? b = some o → s.heap.get? b = some o) →
    s.heap.Ns C m → m x = some u → wpAny (model X.prog X.w) A (eval elt (genEnv scope cl C code bi X.env)) (fun y s' => y = .bool (f v) ∧ Keeps s s') E s
section
variable {X : Cx} {pins : List (Addr × Obj)} {σ : L2.St} {H : Hp} {s : Shared}
/-- the generator g over the values xs, ready to be walked -/
def ReadyV (X : Cx) (pins : List (Addr × Obj)) (σ : L2.St) (H : Hp) (xs : List V) (f : V → Bool) (g : Addr) (s5 : Shared) : Prop :=
  ∃ (fp wr : List Addr) (G : Array GenState → Array GenState → Prop) (F : Nat → Value → Prop) (St : Nat → Shared → Prop), WalksS X.prog X.w X.A.in1 g fp wr G xs.length F St ∧ St 0 s5 ∧ TruthOf X.prog X.w X.A.in1 F (fun j => (xs[j]?.map f).getD true) ∧ ∀ s', Moved wr G s5 s' → Inv X pins σ H s'
theorem gen_seq {c P : Addr} {elt iter : Expr} {x : Str} {px gpos : Pos} {scope : Scope} {Pz : V → Prop} {f : V → Bool} {te : TE} {k : Nat} {Q' : Value → Shared → Prop} {R : List V → Hp → Prop}
    (hr : Room k X.A) (TB : GxR.TabB X.base X.mg c P) (hcode : X.env.code = .ref c) (S : GxR.GenS X.env scope x) (hi : PE X iter te) (hel : EltV X scope x elt Pz f) (hbP : ∀ o, X.base.get? P ≠ some o)
    (hs : ∀ v, genFold iter X.env v = pure v) (I : Inv X pins σ H s)
    (h : te σ H fun v H1 => ∃ (yl : Addr) (xs : List V), v = .ref yl ∧ (SqL X.K H1 yl xs ∨ SqT X.K H1 yl xs) ∧ (∀ a ∈ xs, Pz a) ∧ H1 P = some (tabO P) ∧ R xs H1)
    (hQ : ∀ xs H1 g s5, R xs H1 → ReadyV X pins σ H1 xs f g s5 → Q' (.ref g) s5) :
    wpAny (model X.prog X.w) X.A (eval (.GeneratorExp elt [⟨.Name x px, iter, [], 0⟩] scope gpos) X.env) Q' X.xe s := by
  refine wpAny_GeneratorExp_walksQD hr.hd S.co (closure_ok S.free) S.cell S.dot S.loc S.kind (Nat.lt_of_le_of_lt (by omega) hr.dp) ?_ hs
  refine thn (hi.run pins s σ H _ I h) fun xv s1 ⟨v, H1, I1, r1, q1⟩ => ?_
  obtain ⟨yl, xs, rfl, hyl, hPz, hP, q1⟩ := q1
  cases (show xv = Value.ref yl from r1)
  have ends : ∀ (its : List Value) (o : Obj) (St₀ : Nat → Heap → Prop), Vals xs its → yl < s1.heap.objs.size → yl ≠ P → (∀ A' : Around, A'.handled = none → Walks X.prog X.w A' s1.heap.objs.size [s1.heap.objs.size, yl] [s1.heap.objs.size] its.toArray.size (fun i v => its.toArray[i]? = some v) St₀) → St₀ 0 (s1.heap.push o) →
      (s1.heap.push o).NoLimit ∧ wpAny (model X.prog X.w) X.A (genexprCode X.env gpos (X.env.qual ++ "<genexpr>") scope) (fun code s₃ => wpAny (model X.prog X.w) X.A (builtinsFor X.env.globals X.env.builtins) (fun bi s₄ =>
        ∃ J fp wr n₀ Pf St₁ pz F, Value.ref s1.heap.objs.size = .ref J ∧ (∀ A' : Around, A'.handled = none → Walks X.prog X.w A' J fp wr n₀ Pf St₁) ∧ St₁ 0 s₄.heap ∧ (∀ b ∈ fp, b < s₄.heap.objs.size) ∧ s₄.heap.NoLimit ∧ cStatics ∉ wr ∧
          (∀ href : Heap, (∀ b o, s₄.heap.get? b = some o → href.get? b = some o) →
            QuietGenD X.prog X.w (genEnv scope (cloFrom X.env.cells scope.names []) s₄.heap.objs.size code bi X.env) x [] elt (List.range s₄.heap.objs.size) wr Pf pz F href (X.A.depth + 1) (X.A.units + 8)) ∧
          (∀ a h₅ tk gs, gs.bare = true → s₄.heap.objs.size < a → h₅.objs.size = a + 1 → (∀ b o, s₄.heap.get? b = some o → h₅.get? b = some o) →
            WalksS X.prog X.w X.A.in4 a (a :: s₄.heap.objs.size :: List.range s₄.heap.objs.size) (s₄.heap.objs.size :: wr) (GenOnlyQ s₄.gens.size) (passing pz n₀ 0).length
              (fun j y => ∃ i, (passing pz n₀ 0)[j]? = some i ∧ F i y) (GenAt X.prog X.w X.A.in4 a s₄.gens.size s₄.heap.objs.size (List.range s₄.heap.objs.size) wr pz n₀ F) →
            GenAt X.prog X.w X.A.in4 a s₄.gens.size s₄.heap.objs.size (List.range s₄.heap.objs.size) wr pz n₀ F 0 { s₄ with gens := s₄.gens.push gs, toks := tk, heap := h₅ } →
            Q' (.ref a) { s₄ with gens := s₄.gens.push gs, toks := tk, heap := h₅ })) X.xe s₃) X.xe { s1 with heap := s1.heap.push o } := by
    intro its o St₀ rv hylt hyP W hst0
    obtain ⟨ps, hPs, ht⟩ := tab_at I1 hP
    have hPlt : P < s1.heap.objs.size := Heap.lt_size hPs
    have hP2 : (s1.heap.push o).get? P = some { cls := .none, data := .fields ps } := Heap.get?_push_of_some _ hPs
    have cd : PySem.W.CodeHd (s1.heap.push o) c P := TB.code.keeps fun b u e => Heap.get?_push_of_some _ (I1.bk b u e)
    have lim2 : (s1.heap.push o).NoLimit := I1.nolimit.push o
    have sz2 : (s1.heap.push o).objs.size = s1.heap.objs.size + 1 := Heap.size_push ..
    have hlen : its.length = xs.length := rv.length.symm
    refine ⟨lim2, ?_⟩
    have go : ∀ (code : Value) (h3 : Heap) (tk : Nat) (qs : Array Value), Heap.ExtBut P (s1.heap.push o) h3 → (s1.heap.push o).objs.size ≤ h3.objs.size → h3.get? P = some { cls := .none, data := .fields qs } → TriplesOk qs.toList →
        wpAny (model X.prog X.w) X.A (builtinsFor X.env.globals X.env.builtins) (fun bi s₄ =>
          ∃ J fp wr n₀ Pf St₁ pz F, Value.ref s1.heap.objs.size = .ref J ∧ (∀ A' : Around, A'.handled = none → Walks X.prog X.w A' J fp wr n₀ Pf St₁) ∧ St₁ 0 s₄.heap ∧ (∀ b ∈ fp, b < s₄.heap.objs.size) ∧ s₄.heap.NoLimit ∧ cStatics ∉ wr ∧
            (∀ href : Heap, (∀ b o, s₄.heap.get? b = some o → href.get? b = some o) →
              QuietGenD X.prog X.w (genEnv scope (cloFrom X.env.cells scope.names []) s₄.heap.objs.size code bi X.env) x [] elt (List.range s₄.heap.objs.size) wr Pf pz F href (X.A.depth + 1) (X.A.units + 8)) ∧
            (∀ a h₅ tk gs, gs.bare = true → s₄.heap.objs.size < a → h₅.objs.size = a + 1 → (∀ b o, s₄.heap.get? b = some o → h₅.get? b = some o) →
              WalksS X.prog X.w X.A.in4 a (a :: s₄.heap.objs.size :: List.range s₄.heap.objs.size) (s₄.heap.objs.size :: wr) (GenOnlyQ s₄.gens.size) (passing pz n₀ 0).length
                (fun j y => ∃ i, (passing pz n₀ 0)[j]? = some i ∧ F i y) (GenAt X.prog X.w X.A.in4 a s₄.gens.size s₄.heap.objs.size (List.range s₄.heap.objs.size) wr pz n₀ F) →
              GenAt X.prog X.w X.A.in4 a s₄.gens.size s₄.heap.objs.size (List.range s₄.heap.objs.size) wr pz n₀ F 0 { s₄ with gens := s₄.gens.push gs, toks := tk, heap := h₅ } →
              Q' (.ref a) { s₄ with gens := s₄.gens.push gs, toks := tk, heap := h₅ })) X.xe { s1 with heap := h3, toks := tk } := by
      intro code h3 tk qs hx hsz hP3 ht3
      obtain ⟨bm, ob, e1, e2, e3, e4, e5, e6, e7, e8⟩ := TB.bm
      have keep3 : ∀ b u, b ≠ P → s1.heap.get? b = some u → h3.get? b = some u := fun b u hb e => hx b u hb (Heap.get?_push_of_some _ e)
      have base3 : ∀ b u, X.base.get? b = some u → h3.get? b = some u := fun b u e => keep3 b u (fun z => hbP u (z ▸ e)) (I1.bk b u e)
      obtain ⟨mc, hmc, hmc2⟩ := I1.nolimit
      have hcl : cStatics < s1.heap.objs.size := hmc.lt
      have hcP : cStatics ≠ P := fun e => by
        obtain ⟨o', es, ep, ho, hd, _⟩ := hmc
        rw [e, hPs] at ho
        cases ho
        cases hd
      have n1 : s1.heap.objs.size < h3.objs.size := Nat.lt_of_lt_of_le (by rw [sz2]; exact Nat.lt_succ_self _) hsz
      refine wpAny_builtinsFor (m := X.mg) (by rw [I1.ok.glob]; exact ((I1.mod.glob.keeps I1.bk).push o).extBut hx TB.gP) e1 e2 (keep3 _ _ e4 (I1.bk _ _ e5)) e6 e7 e8 ?_
      refine ⟨_, _, _, _, _, _, fun _ => true, fun i y => ∃ v, xs[i]? = some v ∧ y = .bool (f v), rfl, W, ?_, ?_, lim2.extBut hx hcP, ?_, ?_, ?_⟩
      · refine (W X.A hr.hd).frame _ _ _ hst0 fun b hb u e => hx b u (fun z => ?_) e
        rcases List.mem_cons.mp hb with y | y
        · exact Nat.ne_of_lt hPlt (z.symm.trans y)
        · exact hyP ((List.mem_singleton.mp y).symm.trans z)
      · intro b hb
        rcases List.mem_cons.mp hb with y | y
        · rw [y]; exact n1
        · rw [List.mem_singleton.mp y]; exact Nat.lt_trans hylt n1
      · intro y
        exact Nat.ne_of_lt hcl (List.mem_singleton.mp y)
      · intro href hhref
        refine ⟨fun A' E' i v s₂ m₂ hA _ _ hPv hn hm hk => ?_, fun A' E' i v s₂ m₂ hA hD hU hPv hp hn hm hk => ?_⟩
        · simp only [List.forIn_nil]
          exact wpAny_pure ⟨rfl, GxR.keeps_refl _⟩
        · have hv2 : its[i]? = some v := by simpa using hPv
          have hi2 : i < its.length := (List.getElem?_eq_some_iff.mp hv2).1
          have ha := List.getElem?_eq_getElem (l := xs) (i := i) (by omega)
          obtain ⟨u, hu, ru⟩ := rv.get ha
          rw [hv2] at hu
          cases hu
          refine wpAny_mono (hel _ _ _ _ A' E' _ v s₂ m₂ I1.mod I1.ok.glob hA hD hU (hPz _ (List.mem_of_getElem? ha)) ru (fun b u e => ?_) hn hm) (fun y s3 r => ⟨⟨_, ha, r.1⟩, r.2⟩) fun _ _ e => e
          have e9 := I1.bk b u e
          have lt9 := Heap.lt_size e9
          refine hk b (List.mem_range.mpr (Nat.lt_trans lt9 n1)) (fun z => Nat.ne_of_lt lt9 (List.mem_singleton.mp z)) u (hhref b u (base3 b u e))
      · intro g h5 tk5 gs hgb hag hsz5 hk5 W5 hat
        simp only [GxR.passing_true, List.length_range] at W5
        have hn5 : its.toArray.size = xs.length := List.size_toArray.trans hlen
        rw [hn5] at W5 hat
        refine hQ xs H1 g _ q1 ⟨_, _, _, _, _, W5.in4_1, hat, ?_, fun s' hm => ?_⟩
        · intro j y sj Qj Ej hy hQj
          obtain ⟨i, hij, v, hv, rfl⟩ := hy
          obtain ⟨hj, ej⟩ := List.getElem?_eq_some_iff.mp hij
          rw [List.getElem_range] at ej
          subst ej
          have hQ2 : Qj ((xs[j]?.map f).getD true) sj := hQj
          rw [hv] at hQ2
          exact wpAny_truthy_bool hQ2
        · have nwr : ∀ b, b < s1.heap.objs.size → b ∉ h3.objs.size :: [s1.heap.objs.size] := fun b hl hb => by
            rcases List.mem_cons.mp hb with z | z
            · exact Nat.lt_irrefl _ (Nat.lt_trans n1 (z ▸ hl))
            · exact Nat.ne_of_lt hl (List.mem_singleton.mp z)
          have J := tab_inv (h' := s'.heap) (g' := s'.gens) (d' := s'.drawn) (t' := s'.toks) I1 hP (fun b u hb e => hm.heap b u (nwr b (Heap.lt_size e)) (hk5 b u (keep3 b u hb e))) ⟨qs, hm.heap P _ (nwr P hPlt) (hk5 P _ hP3), ht3⟩ (AllBare.movedS (I1.bare.push hgb) hm)
          rw [GxR.sh_eta s1 s' hm.os] at J
          exact J
    cases hf : codeAmong gpos ps.toList with
    | none =>
      refine wpAny_genexprCodeX hcode (cd.code hP2 ht) (cd.tab hP2) hf fun c' h' tk hx hge hlt hco' _ htab' _ => ?_
      obtain ⟨o1, vs, f1, tf, fl, tg, inF, tx, tt, op, _, _, _, _, _, _, _, _, _, htr, _⟩ := hco'
      exact go _ h' tk _ hx (Nat.le_trans hge (Nat.le_of_lt hlt)) htab'.2 htr
    | some cv =>
      refine wpAny_genexprCode_hit hcode (cd.code hP2 ht) hf ?_
      exact go cv (s1.heap.push o) s1.toks ps (Heap.ExtBut.refl _ _) (Nat.le_refl _) hP2 ht
  obtain ⟨ps, hPs, _⟩ := tab_at I1 hP
  rcases hyl with hyl | hyl
  · obtain ⟨its, rv, hl, hz⟩ := I1.list hyl
    have hIL := hl.isList
    obtain ⟨ol, el, rl⟩ := id hIL
    have hylt := Heap.lt_size el
    have hyP : yl ≠ P := fun z => by
      rw [z, hPs] at el
      cases el
      obtain ⟨_, _, hd⟩ := rl
      cases hd
    refine wpAny_pyIter_list hIL (ends its _ _ rv hylt hyP (fun A' hA => Walks.list hA _ _ (Nat.ne_of_lt hylt) _) ⟨⟨_, Heap.get?_push_size _ rfl, rfl, rfl⟩, ⟨ol, Heap.get?_push_of_some _ el, rl⟩⟩)
  · obtain ⟨its, rv, hl, hz⟩ := I1.tuple hyl
    obtain ⟨ol, el, rl⟩ := id hl
    have hylt := Heap.lt_size el
    have hyP : yl ≠ P := fun z => by
      rw [z, hPs] at el
      cases el
      obtain ⟨_, n, hd⟩ := rl
      cases hd
    refine wpAny_pyIter_tuple hl (ends its _ _ rv hylt hyP (fun A' hA => Walks.tuple hA _ _ (Nat.ne_of_lt hylt) _) ⟨⟨_, Heap.get?_push_size _ rfl, rfl, rfl⟩, ⟨ol, Heap.get?_push_of_some _ el, rl⟩⟩)
/-- all(e for x in xs) -/
def tAllG (K : PySem.W.Frag) (P : Addr) (Pz : V → Prop) (f : V → Bool) (te : TE) : TE := fun σ H Q => te σ H fun v H1 => ∃ (yl : Addr) (xs : List V), v = .ref yl ∧ (SqL K H1 yl xs ∨ SqT K H1 yl xs) ∧ (∀ a ∈ xs, Pz a) ∧ H1 P = some (tabO P) ∧ Q (.bl (xs.all f)) H1
theorem all_at_places (xs : List V) (f : V → Bool) : (List.range xs.length).all (fun j => (xs[j]?.map f).getD true) = xs.all f := by
  rw [Bool.eq_iff_iff, List.all_eq_true, List.all_eq_true]
  constructor
  · intro h b hb
    obtain ⟨j, hj, rfl⟩ := List.getElem_of_mem hb
    have := h j (List.mem_range.mpr hj)
    rw [List.getElem?_eq_getElem hj] at this
    exact this
  · intro h j hj
    have hj' := List.mem_range.mp hj
    rw [List.getElem?_eq_getElem hj']
    exact h _ (List.getElem_mem hj')
theorem pe_allG {c P : Addr} {elt iter : Expr} {x : Str} {px p pos gpos : Pos} {scope : Scope} {Pz : V → Prop} {f : V → Bool} {te : TE} {k : Nat}
    (hr : Room k X.A) (hg : Gl X "all") (hm : X.mg "all" = none) (TB : GxR.TabB X.base X.mg c P) (hbP : ∀ o, X.base.get? P ≠ some o) (hcode : X.env.code = .ref c) (S : GxR.GenS X.env scope x) (hi : PE X iter te) (hel : EltV X scope x elt Pz f)
    (hs : ∀ v, genFold iter X.env v = pure v)
    (he : starEach [.GeneratorExp elt [⟨.Name x px, iter, [], 0⟩] scope gpos] X.env = (false, eval (.GeneratorExp elt [⟨.Name x px, iter, [], 0⟩] scope gpos) X.env) :: starEach [] X.env := by rfl) :
    PE X (.Call (.Name "all" p) [.GeneratorExp elt [⟨.Name x px, iter, [], 0⟩] scope gpos] [] pos) (tAllG X.K P Pz f te) := by
  refine ⟨fun pins s σ H Q I h => wpAny_Call_Name_kw (ld_blt I hg hm boot_all (PyProof.Rows.callWith_builtin1 ?_ he (by rfl)))⟩
  rw [he]
  refine Calls.spliced_cons (gen_seq (R := fun xs H1 => Q (.bl (xs.all f)) H1) hr TB hcode S hi hel hbP hs I h fun xs H1 g s5 hR hG => Calls.spliced_nil ?_)
  obtain ⟨fp, wr, G, F, St, W, hst, htr, hI⟩ := hG
  refine call_all_walkS (W.self 0 _ _ _ hst ⟨g, fp, wr, G, _, F, St, _, rfl, W, hst, htr, fun s' hmv => ⟨.bl _, H1, hI s' hmv, rfl, ?_⟩⟩)
  rw [all_at_places]
  exact hR
end
end My
set_option maxHeartbeats 2000000
/-! a def that asks of its one argument whether it is an int and no bool, called in the frame of a generator expression -/
namespace My
open PySem PySem.Spec PyProof.Rows L2 Evl
def isIntV : V → Bool
  | .int _ => true
  | _ => false
/-- a value that is no object -/
def Plain (v : V) : Prop := (∃ i, v = .int i) ∨ (∃ b, v = .bl b) ∨ (∃ x, v = .str x) ∨ v = .non
section
variable {P : Program} {w : World} {K : PySem.W.Frag} {A : Around} {E : Value → Shared → Prop} {s : Shared} {env : Env} {m mg : Str → Option Value} {base : Heap}
theorem plain_kit {v : V} {u : Value} (h : Plain v) (r : RelV v u) : ∃ (T : String) (G : Heap → Prop), PySem.W.KitX K u (.type T) G ∧ (∀ h, G h) ∧ u ≠ .builtin "__main__.__loader__#opaque" ∧ (∃ b1 b2, PySem.W.kitOne K (.type T) (.type "int") = some b1 ∧ PySem.W.kitOne K (.type T) (.type "bool") = some b2 ∧ (b1 && !b2) = isIntV v) := by
  rcases h with ⟨i, rfl⟩ | ⟨b, rfl⟩ | ⟨x, rfl⟩ | rfl
  · obtain ⟨t, rfl⟩ := (show ∃ t, u = Value.int i t from r)
    exact ⟨_, _, PySem.W.kitx_int, fun _ => True.intro, (fun z => nomatch z), true, false, kit_ty (by decide +kernel), kit_ty (by decide +kernel), rfl⟩
  · cases (show u = Value.bool b from r)
    exact ⟨_, _, PySem.W.kitx_bool, fun _ => True.intro, (fun z => nomatch z), true, true, kit_ty (by decide +kernel), kit_ty (by decide +kernel), rfl⟩
  · obtain ⟨t, rfl⟩ := (show ∃ t, u = Value.str x t from r)
    exact ⟨_, _, PySem.W.kitx_str, fun _ => True.intro, (fun z => nomatch z), false, false, kit_ty (by decide +kernel), kit_ty (by decide +kernel), rfl⟩
  · cases (show u = Value.none from r)
    exact ⟨_, _, PySem.W.kitx_none, fun _ => True.intro, (fun z => nomatch z), false, false, kit_ty (by decide +kernel), kit_ty (by decide +kernel), rfl⟩
theorem isi_raw {x T : Str} {Tn : String} {p1 p2 p3 p4 : Pos} {u : Value} {T0 : Value} {G : Heap → Prop} {b : Bool} {Q : Value → Shared → Prop} (hk : env.scope.kind = .function) (hx : env.kindOf x = some .local) (hn : s.heap.Ns env.locals m) (hv : m x = some u)
    (hi : env.kindOf "isinstance" = some .globalImplicit) (ht : env.kindOf T = some .globalImplicit) (hgl : s.heap.Ns env.globals mg) {mb : Str → Option Value} (hbl : s.heap.Ns env.builtins mb) (n1 : mg "isinstance" = none) (n2 : mg T = none) (b1 : mb "isinstance" = some (.builtin "isinstance")) (b2 : mb T = some (.type Tn))
    (KX : K.In s.heap) (Z : PySem.W.KitX K u T0 G) (g : G s.heap) (nl : u ≠ .builtin "__main__.__loader__#opaque") (e : PySem.W.kitOne K T0 (.type Tn) = some b) (hdx : (x == ("__debug__" : Str)) = false) (hdT : (T == ("__debug__" : Str)) = false) (h : ∀ tk, Q (.bool b) { s with toks := tk })
    (he : starEach [.Name x p2, .Name T p3] env = (false, eval (.Name x p2) env) :: starEach [.Name T p3] env := by rfl) (he2 : starEach [.Name T p3] env = (false, eval (.Name T p3) env) :: starEach [] env := by rfl) (hpl : (backTo p4 (starEach [.Name T p3] env)).any (·.1) = false := by rfl) :
    wpAny (model P w) A (eval (.Call (.Name "isinstance" p1) [.Name x p2, .Name T p3] [] p4) env) Q E s := by
  refine wpAny_Call_Name_kw (Calls.Name_function_global hk hi (Calls.loadGlobal_builtin hgl n1 hbl b1 ?_))
  refine PyProof.Rows.callWith_builtin1 ?_ he hpl
  rw [he, he2]
  refine Calls.spliced_cons (wpAny_Name (wpAny_loadName_local hk hx hn hv ?_) hdx)
  refine Calls.spliced_cons (Calls.Name_function_global hk ht (Calls.loadGlobal_builtin hgl n2 hbl b2 ?_) hdT)
  refine Calls.spliced_nil ?_
  exact PySem.W.kia_one Z KX g e nl h
/-- the def's own run -/
theorem isint_run {st : Stmt} {f : Addr} {fd : FuncData} {x : Str} {p1 p2 p3 p4 q1 q2 q3 q4 q5 r1 r2 : Pos} (M : L2.Mod K mg base) (F : L2.Fun K "is_integer" "is_integer" st f fd) (Bd : Binds K fd [x] []) (S : FnScope [x] [x] (defScope st))
    (hb : defBody st = [.Return (some (.BoolOp .And [.Call (.Name "isinstance" p1) [.Name x p2, .Name "int" p3] [] p4, .UnaryOp .Not (.Call (.Name "isinstance" q1) [.Name x q2, .Name "bool" q3] [] q4) q5] r1)) r2])
    (hx : (defScope st).names.lookup x = some .local) (hi : (defScope st).names.lookup ("isinstance" : Str) = some .globalImplicit) (hI : (defScope st).names.lookup ("int" : Str) = some .globalImplicit) (hB : (defScope st).names.lookup ("bool" : Str) = some .globalImplicit)
    (n1 : mg "isinstance" = none) (n2 : mg "int" = none) (n3 : mg "bool" = none) (hdx : (x == ("__debug__" : Str)) = false)
    (hd : A.handled = none) (dp : A.depth < recursionLimit) (bs : ∀ b o, base.get? b = some o → s.heap.get? b = some o) {v : V} {u : Value} (hp : Plain v) (r : RelV v u) {Q : Value → Shared → Prop} (h : ∀ s', Keeps s s' → Q (.bool (isIntV v)) s') :
    wpAny (model P w) A (call (.ref f) [u]) Q E s := by
  obtain ⟨T0, G, Z, g, nl, c1, c2, k1, k2, hc⟩ := plain_kit (K := K) hp r
  have KX : K.In s.heap := M.kin.keeps bs
  obtain ⟨oc, od, kV, doc, pm, an, cdv, ct, osl, rfl, lk, hcd⟩ := F.ex
  refine wpAny_call (codeAny_mono (R := fun r s' => r = .ok (.ret (.bool (isIntV v))) ∧ Keeps s s') ?_ fun r s' hq => ?_)
  · refine codeAny_call_function dp (KX _ _ lk) rfl S.co S.gen rfl (PySem.W.codeRec_of KX hcd) (Bd s [u] KX rfl _ _ _ _ ?_)
    refine wpAny_newFunctionEnv_cells S.kind (fun y hy => ?_) fun env he s1 xx => ?_
    · have : y = (x, u) := by simpa using hy
      rw [this]; exact .inl hx
    · subst he
      obtain ⟨h1, tk, hs1, kp⟩ := xx.done
      have lim : s1.heap.NoLimit := (M.nolimit.keeps bs).keeps xx.toInCall.keep
      refine ⟨lim, codeAny_func ?_⟩
      have KX1 : K.In s1.heap := KX.keeps xx.toInCall.keep
      have hgl := (M.glob.keeps bs).keeps xx.toInCall.keep
      obtain ⟨mb, hbl, hbb⟩ := M.blt
      have hbl1 := (hbl.keeps bs).keeps xx.toInCall.keep
      have e1 : mb "isinstance" = some (.builtin "isinstance") := (hbb _ (by decide)).trans boot_isinstance
      have e2 : mb "int" = some (.type "int") := (hbb _ (by decide)).trans boot_int
      have e3 : mb "bool" = some (.type "bool") := (hbb _ (by decide)).trans boot_bool
      have hm : bindL (Env.kindOf (newEnv (defScope st) s.heap.objs.size mainGlobals (cellsFrom (s.heap.objs.size + 1) (defScope st).names []) ("is_integer" ++ ".<locals>.") (some f) cdv none builtinsNs)) [(x, u)] (fun _ => none) x = some u := by
        exact bindL_get (P := [x]) (vs := [u]) (i := 0) (by simp) rfl rfl hx
      have kps : ∀ tk', Keeps s { s1 with toks := tk' } := fun tk' => ⟨h1, tk', by rw [hs1], kp⟩
      rw [hb]
      refine wpAny_execs_cons (wpAny_Return_some (BoolOp_and (isi_raw (K := K) (mg := mg) (b := c1) S.kind hx xx.toInCall.ns hm hi hI hgl hbl1 n1 n2 e1 e2 KX1 Z (g _) nl k1 hdx (by decide) fun tk1 => wpAny_truthy_bool ?_)))
      cases c1 with
      | false => exact ⟨by rw [← hc]; rfl, kps _⟩
      | true =>
        refine BoolOp_one (UnaryOp_ (isi_raw (K := K) (mg := mg) (b := c2) (s := { s1 with toks := tk1 }) S.kind hx xx.toInCall.ns hm hi hB hgl hbl1 n1 n3 e1 e3 KX1 Z (g _) nl k2 hdx (by decide) fun tk2 => not_value (wpAny_truthy_bool ?_)))
        exact ⟨by rw [← hc]; rfl, kps _⟩
  · obtain ⟨rfl, kp⟩ := hq
    exact h s' kp
end
end My
namespace My
open PySem PySem.Spec PyProof.Rows L2 Evl
/-- a def of the text that tells ints from others -/
structure IntDef (K : PySem.W.Frag) (mg : Str → Option Value) (x : Str) : Prop where
  ex : ∃ f : Addr, mg x = some (.ref f) ∧ PySem.W.keepIn K (.ref f) = true ∧ ∀ (P : Program) (w : World) (base : Heap) (A : Around) (E : Value → Shared → Prop) (s : Shared) (v : V) (u : Value) (Q : Value → Shared → Prop), L2.Mod K mg base → A.handled = none → A.depth < recursionLimit →
    (∀ b o, base.get? b = some o → s.heap.get? b = some o) → Plain v → RelV v u → (∀ s', Keeps s s' → Q (.bool (isIntV v)) s') → wpAny (model P w) A (call (.ref f) [u]) Q E s
def genC (scope : Scope) (x : Str) : Bool := (match scope.kind with | .function => true | _ => false) && !scope.isCoroutine && scope.names.all (fun y => decide (y.2 ≠ .cell) && decide (y.2 ≠ .free)) && decide (scope.names.lookup (".0" : Str) = some .local) && decide (scope.names.lookup x = some .local)
theorem gens_by {env : Env} {scope : Scope} {x : Str} (h : genC scope x = true) : GxR.GenS env scope x := by
  unfold genC at h
  simp only [Bool.and_eq_true, List.all_eq_true, decide_eq_true_eq, Bool.not_eq_true'] at h
  obtain ⟨⟨⟨⟨h1, h2⟩, h3⟩, h4⟩, h5⟩ := h
  refine ⟨?_, h2, fun y hy => (h3 y hy).1, h4, h5, fun y hy e => absurd e (h3 y hy).2⟩
  split at h1
  · assumption
  · cases h1
theorem elt_isint {X : Cx} {scope : Scope} {x fn : Str} {p1 p2 p3 : Pos} {k : Nat} (hr : Room k X.A) (D : IntDef X.K X.mg fn) (hk : scope.kind = .function) (hx : scope.names.lookup x = some .local) (hf : scope.names.lookup fn = some .globalImplicit) (hdx : (x == ("__debug__" : Str)) = false) (hdf : (fn == ("__debug__" : Str)) = false) :
    EltV X scope x (.Call (.Name fn p1) [.Name x p2] [] p3) Plain isIntV := by
  intro cl C code bi A E v u s m hM hgl hA hD hU hp r bs hn hm
  obtain ⟨f, hmg, kp, run⟩ := D.ex
  have dp := hr.dp
  have hg : (genEnv scope cl C code bi X.env).globals = mainGlobals := hgl
  refine wpAny_Call_Name_kw (Calls.Name_function_global hk hf (Calls.loadGlobal_global (by rw [hg]; exact hM.glob.keeps bs) hmg ?_) hdf)
  refine PySem.W.callWith_K (h₀ := X.base) hM.kin kp ?_ (by rfl) (by rfl)
  refine Calls.spliced_cons (wpAny_Name (wpAny_loadName_local hk hx hn hm ?_) hdx)
  refine Calls.spliced_nil ⟨hM.kin.keeps bs, ?_⟩
  exact run _ _ _ _ _ _ _ _ _ hM hA (by omega) bs hp r fun s' ks => ⟨rfl, ks⟩
section
variable {P : Program} {w : World} {K : PySem.W.Frag} {mg : Str → Option Value} {base : Heap}
/-- a def whose code object stands at c -/
structure Dfc (K : PySem.W.Frag) (mg : Str → Option Value) (x : Str) (st : Stmt) (ps : List Str) (c : Addr) : Prop where
  ex : ∃ (f : Addr) (fd : FuncData) (oc : Value) (od : Option Addr) (kV doc pm : Value) (an : Option Addr) (ct : Value) (osl : Array (Option Value)), fd = PySem.W.fnOf x x (defArgs st) (defBody st) (defScope st) .none kV doc pm an (.ref c) ct ∧ K.lookup f = some ⟨oc, od, .func fd, osl⟩ ∧ PySem.W.codeIn K (.ref c) x = true ∧ PySem.W.keepIn K (.ref f) = true ∧ mg x = some (.ref f) ∧ Binds K fd ps []
theorem Dfc.ok {x : Str} {st : Stmt} {N ps : List Str} {k : Nat} {sp : Sp} {c : Addr} (D : Dfc K mg x st ps c) (S : FnScope N ps (defScope st)) (len : ∀ vs H Q E, sp vs H Q E → vs.length = ps.length)
    (hbody : ∀ (f : Addr) (A : Around) (outer : List Env) (s : Shared) (H : Hp) (vs : List V) (Q : VK) (E : XK), Room k (A.deeper (envOfC x (defScope st) s.heap.objs.size f (.ref c))) → sp vs H Q E →
      ∃ t, PSs (cxOf L2.CX0 P w K mg base N x (defScope st) f (.ref c) A outer s H E).nox (defBody st) t ∧ t { nx := fun _ H' => Q .non H', rt := Q } (start N vs) H) : Cd P w K mg base (k + 1) x sp := by
  obtain ⟨f, fd, oc, od, kV, doc, pm, an, ct, osl, rfl, lk, hcd, kp, hm, b⟩ := D.ex
  refine ⟨f, _, ps, fn_of lk hcd S len fun A outer s H vs Q E hr hsp => ?_, hm, kp, b⟩
  obtain ⟨t, h, q⟩ := hbody f A outer s H vs Q E hr hsp
  exact ⟨t, h.nox, q⟩
theorem intDef_of {st : Stmt} {x : Str} {p1 p2 p3 p4 q1 q2 q3 q4 q5 r1 r2 : Pos} (D : Df K mg "is_integer" st [x]) (S : FnScope [x] [x] (defScope st))
    (hb : defBody st = [.Return (some (.BoolOp .And [.Call (.Name "isinstance" p1) [.Name x p2, .Name "int" p3] [] p4, .UnaryOp .Not (.Call (.Name "isinstance" q1) [.Name x q2, .Name "bool" q3] [] q4) q5] r1)) r2])
    (hx : (defScope st).names.lookup x = some .local) (hi : (defScope st).names.lookup ("isinstance" : Str) = some .globalImplicit) (hI : (defScope st).names.lookup ("int" : Str) = some .globalImplicit) (hB : (defScope st).names.lookup ("bool" : Str) = some .globalImplicit)
    (n1 : mg "isinstance" = none) (n2 : mg "int" = none) (n3 : mg "bool" = none) (hdx : (x == ("__debug__" : Str)) = false) : IntDef K mg "is_integer" := by
  obtain ⟨f, fd, F, m, b⟩ := D.ex
  exact ⟨f, m, F.kp, fun P w base A E s v u Q M hd dp bs hp r h => isint_run M F b S hb hx hi hI hB n1 n2 n3 hdx hd dp bs hp r h⟩
end
/-! ### the end, with tables -/
def TabFact (K : PySem.W.Frag) (mg : Str → Option Value) (h : Heap) (x : Str) : Prop := ∀ (f : Addr) (o : Obj) (fd : FuncData) (c : Addr) (e : Value) (dd : Option Addr) (vs : Array Value) (sl : Array (Option Value)) (P : Addr), mg x = some (.ref f) → K.lookup f = some o → o.data = .func fd → fd.code = .ref c →
  K.lookup c = some ⟨e, dd, .fields vs, sl⟩ → vs[11]? = some (.ref P) → PySem.W.CodeHd h c P ∧ h.get? P = some { cls := .none, data := .fields #[] }
/-- what stands tabled at the law's start -/
def Tabs (cs : List (Addr × Addr)) (H : Hp) : Prop := ∀ p ∈ cs, H p.2 = some (tabO p.2)
theorem law_callQ {Pr : Program} {w : World} {K : PySem.W.Frag} {mg mb : Str → Option Value} {CX : CXT} {k : Nat} {fa a : Addr} {cs : List (Addr × Addr)} {fd : FuncData} {x : Str} {sp : Sp} {s : Shared} {vs : List Value} {ns : List Int}
    (KX : K.In s.heap) (hns : s.heap.Ns mainGlobals mg) (hb : s.heap.Ns builtinsNs mb) (hbb : ∀ x : Str, x ≠ "__name__" → mb x = bootBuiltins x) (hlim : s.heap.NoLimit) (hg : s.gens = #[])
    (hT : ∀ p ∈ cs, s.heap.get? p.2 = some { cls := .none, data := .fields #[] }) (nT : ∀ p ∈ cs, K.lookup p.2 = none) (hC : ∀ p ∈ cs, PySem.W.CodeHd s.heap p.1 p.2)
    (hbm : ∃ (bm : Addr) (ob : Obj), mg "__builtins__" = some (.ref bm) ∧ bm ≠ builtinsNs ∧ s.heap.get? bm = some ob ∧ ob.cls = .type "module" ∧ ob.dict = some builtinsNs ∧ ob.data = .plain)
    (ha : s.heap.get? a = some { cls := .type "list", data := .seq vs.toArray }) (hi : IntsAre vs ns) (hl : ns.length ≤ sizeLine) (hr : Room k callerA)
    (F : ∀ base : Heap, K.In base → base.Ns mainGlobals mg → (∀ p ∈ cs, GxR.TabB base mg p.1 p.2 ∧ ∀ o, base.get? p.2 ≠ some o) → FnG Pr w K mg base CX k fa fd [x] sp) (hbind : ∀ (s : Shared) (u : Value), BindsTo s fd ⟨[u], []⟩ [(x, u)])
    (hsp : ∀ H : Hp, Tabs cs H → SqL K H a (ns.map V.int) → sp [.ref a] H (fun v H' => v = .bl true ∧ Ex H H') fun _ _ _ => False)
    (hCX : ∀ H Q e s', CX [] H s Q e s' → False) :
    codeAny (model Pr w) callerA (.call (.ref fa) ⟨[.ref a], []⟩) (fun r s' => r = .ok (.ret (.bool true)) ∧ OldK s.heap s'.heap ∧ s'.os = s.os ∧ AllBare s'.gens) s := by
  have rv := vals_ints hi
  let tb : Addr → Prop := fun b => b ∈ cs.map (·.2)
  have tbE : ∀ b, tb b → s.heap.get? b = some { cls := .none, data := .fields #[] } := fun b z => by
    obtain ⟨p, hp, rfl⟩ := List.mem_map.mp z; exact hT p hp
  have tbI : ∀ p ∈ cs, tb p.2 := fun p hp => List.mem_map.mpr ⟨p, hp, rfl⟩
  have na : ¬ tb a := fun z => by
    have := tbE a z
    rw [ha] at this
    cases (congrArg Obj.data (Option.some.inj this) : Data.seq vs.toArray _ = Data.fields #[])
  let fz : HO := .frz { cls := .type "list", data := .seq vs.toArray } (.lst (ns.map V.int))
  -- the script is told as an object of its own, or stands in the written part
  have run : ∀ H : Hp, (∀ b u, H b = some u → (b = a ∧ u = fz ∧ K.lookup a = none) ∨ (tb b ∧ u = tabO b)) → Tabs cs H → SqL K H a (ns.map V.int) → codeAny (model Pr w) callerA (.call (.ref fa) ⟨[.ref a], []⟩) (fun r s' => r = .ok (.ret (.bool true)) ∧ OldK s.heap s'.heap ∧ s'.os = s.os ∧ AllBare s'.gens) s := by
    intro H hH hTab hS
    have hok : HOk Pr w H s.heap := fun b u e => by
      rcases hH b u e with ⟨rfl, rfl, _⟩ | ⟨z, rfl⟩
      · exact ⟨ha, by rw [List.length_map]; exact hl, vs, _, rv, ha⟩
      · exact tab_hok ⟨#[], tbE b z, True.intro⟩
    have keepB : ∀ {b : Addr} {o : Obj}, s.heap.get? b = some o → (∀ v n, o.data ≠ .seq v n) → o.data ≠ .fields #[] → (hidT s.heap H).get? b = some o := fun {b o} e h1 h2 => hidT_get e (by
      cases q : H b with
      | none => rfl
      | some u =>
        rcases hH b u q with ⟨rfl, _, _⟩ | ⟨z, _⟩
        · rw [ha] at e; cases e; exact (h1 _ _ rfl).elim
        · rw [tbE b z] at e; cases e; exact (h2 rfl).elim)
    have nsB : ∀ {b : Addr} {m : Str → Option Value}, s.heap.Ns b m → (hidT s.heap H).Ns b m := fun {b m} ⟨o, es, ep, e, d, r⟩ => ⟨o, es, ep, keepB e (fun v n z => by rw [d] at z; cases z) (fun z => by rw [d] at z; cases z), d, r⟩
    have KB : K.In (hidT s.heap H) := fun b o e => hidT_get (KX b o e) (by
      cases q : H b with
      | none => rfl
      | some u =>
        rcases hH b u q with ⟨rfl, _, z⟩ | ⟨z, _⟩
        · rw [z] at e; cases e
        · obtain ⟨p, hp, rfl⟩ := List.mem_map.mp z
          rw [nT p hp] at e; cases e)
    have M : L2.Mod K mg (hidT s.heap H) := ⟨KB, nsB hns, ⟨mb, nsB hb, hbb⟩, let ⟨mc, h1, h2⟩ := hlim; ⟨mc, nsB h1, h2⟩⟩
    have TB : ∀ p ∈ cs, GxR.TabB (hidT s.heap H) mg p.1 p.2 ∧ ∀ o, (hidT s.heap H).get? p.2 ≠ some o := fun p hp => by
      have hTp := hT p hp
      refine ⟨⟨?_, ?_, fun z => ?_⟩, fun o e => ?_⟩
      · obtain ⟨o, us, file, tf, flags, tg, inF, text, tt, e1, t1, t2, t3, rest⟩ := hC p hp
        exact ⟨o, us, file, tf, flags, tg, inF, text, tt, keepB e1 (fun v n z => by rw [t2] at z; cases z) (fun z => by rw [t2] at z; cases z; simp at t3), t1, t2, t3, rest⟩
      · obtain ⟨bm, ob, b1, b2, b3, b4, b5, b6⟩ := hbm
        refine ⟨bm, ob, b1, b2, fun z => ?_, fun z => ?_, keepB b3 (fun v n z => by rw [b6] at z; cases z) (fun z => by rw [b6] at z; cases z), b4, b5, b6⟩
        · obtain ⟨o, es, ep, e, hd, _⟩ := hns
          rw [z, e] at b3; cases b3
          rw [hd] at b6; cases b6
        · rw [z, hTp] at b3; cases b3; cases b6
      · obtain ⟨o, es, ep, e, hd, _⟩ := hns
        rw [z, hTp] at e; cases e; cases hd
      · have h1 := of_hidT e
        rw [hTab p hp] at h1
        cases h1.2
    have e0 : Env0 Pr w K mg (hidT s.heap H) callerA [] s H := ⟨rfl, M, fun b o e => of_hidT e, Nat.le_of_eq (hidT_size _ _), True.intro, fun b z => absurd (show b ∈ ([] : List Addr) from z) List.not_mem_nil, hok, .of_eq hg⟩
    refine codeAny_mono ((F _ KB (nsB hns) TB).run callerA rfl [] s H ⟨[.ref a], []⟩ [.ref a] [.ref a] _ _ hr e0 (hbind s (.ref a)) (.cons rfl .nil) (hsp H hTab hS)) fun r s' q => ?_
    cases r with
    | error e => exact (hCX _ _ _ _ q).elim
    | ok fl =>
      cases fl with
      | ret u =>
        obtain ⟨v, H', os, bare, un, hok', rr, rfl, ex⟩ := q
        cases (show u = Value.bool true from rr)
        have gone : ∀ p ∈ cs, ∃ more : Array Value, s'.heap.get? p.2 = some { cls := .none, data := .fields more } := fun p hp => by
          obtain ⟨⟨ps, e, _⟩, _⟩ := hok' p.2 _ (ex _ _ (hTab p hp))
          exact ⟨ps, e⟩
        have same : ∀ b o, ¬ tb b → s.heap.get? b = some o → s'.heap.get? b = some o := fun b o nb e => by
          cases z : H b with
          | none => exact un.keep b o e z (fun y => absurd (show b ∈ ([] : List Addr) from y) List.not_mem_nil) List.not_mem_nil
          | some u =>
            rcases hH b u z with ⟨rfl, rfl, _⟩ | ⟨y, _⟩
            · obtain ⟨e2, _⟩ := hok' b _ (ex _ _ z)
              rw [ha] at e; cases e; exact e2
            · exact absurd y nb
        refine ⟨rfl, ⟨fun b o e => ?_, fun b o e => ?_⟩, os, bare⟩
        · by_cases z : tb b
          · obtain ⟨p, hp, rfl⟩ := List.mem_map.mp z
            obtain ⟨more, hm⟩ := gone p hp
            rw [hT p hp] at e
            cases e
            exact .inr (.inl ⟨((hC p hp).tab (hT p hp)).isCodeTable, rfl, #[], more, rfl, by rw [Array.empty_append]; exact hm⟩)
          · exact .inl (same b o z e)
        · by_cases z : tb b
          · obtain ⟨p, hp, rfl⟩ := List.mem_map.mp z
            obtain ⟨more, hm⟩ := gone p hp
            exact ⟨_, hm⟩
          · exact ⟨o, same b o z e⟩
      | next => exact False.elim q
      | brk => exact False.elim q
      | cont => exact False.elim q
  cases hk : K.lookup a with
  | some o =>
    have e := KX a o hk
    rw [ha] at e
    cases e
    refine run (fun b => if tb b then some (tabO b) else none) (fun b u e => ?_) (fun p hp => if_pos (tbI p hp)) (.inr ⟨_, vs.toArray, _, hk, rfl, rfl, rfl, by rw [List.size_toArray, hi.length]; exact hl, by simpa using rv⟩)
    by_cases z : tb b
    · have e' := (if_pos z).symm.trans e
      cases e'; exact .inr ⟨z, rfl⟩
    · have e' := (if_neg z).symm.trans e
      cases e'
  | none =>
    refine run (fun b => if b = a then some fz else if tb b then some (tabO b) else none) (fun b u e => ?_) (fun p hp => ?_) (.inl (.inr ⟨{ cls := .type "list", data := .seq vs.toArray }, if_pos rfl⟩))
    · by_cases y : b = a
      · have e' := (if_pos y).symm.trans e
        cases e'; exact .inl ⟨y, rfl, hk⟩
      · have e1 := (if_neg y).symm.trans e
        by_cases z : tb b
        · have e' := (if_pos z).symm.trans e1
          cases e'; exact .inr ⟨z, rfl⟩
        · have e' := (if_neg z).symm.trans e1
          cases e'
    · have y : ¬ p.2 = a := fun z => na (z ▸ tbI p hp)
      exact (if_neg y).trans (if_pos (tbI p hp))
/-- the law's promise by its body, with tables -/
def LawQ (l : PySem.W.OpenLaw) (w : World) (K : PySem.W.Frag) (k n : Nat) (x : Str) (mg : Str → Option Value) (fa : Addr) (h : Heap) : Prop :=
  ∃ (fd : FuncData) (cs : List (Addr × Addr)) (sp : Sp), (∀ p ∈ cs, h.get? p.2 = some { cls := .none, data := .fields #[] }) ∧ (∀ p ∈ cs, K.lookup p.2 = none) ∧ (∀ p ∈ cs, PySem.W.CodeHd h p.1 p.2) ∧ (∀ (s : Shared) (u : Value), BindsTo s fd ⟨[u], []⟩ [(x, u)]) ∧
    (∀ (H : Hp) (a : Addr) (ns : List Int), ns.length ≤ n → Tabs cs H → SqL K H a (ns.map V.int) → sp [.ref a] H (fun v H' => v = .bl true ∧ Ex H H') fun _ _ _ => False) ∧
    ∀ base : Heap, K.In base → base.Ns mainGlobals mg → (∀ p ∈ cs, GxR.TabB base mg p.1 p.2 ∧ ∀ o, base.get? p.2 ≠ some o) → FnG l.prog w K mg base L2.CX0 k fa fd [x] sp
theorem walk_ofQ {l : PySem.W.OpenLaw} {n k : Nat} {q : Program} {loose : List Str} {XP : (Str → Option Value) → Heap → Prop} {YP : World → Heap → Prop} {d : DefRec} {K : Params → PySem.W.Frag} {x : Str} (ts : List Str)
    (hn : l.most = some n) (hn2 : n ≤ sizeLine) (hdf : d.params.defaults = []) (hr : Room k callerA) (hY : ∀ (w : World) (h : Heap), YP w h → (K w.params).In h) (hrec : (ts.all fun x => (recsOf q).any fun e => e.name == x) = true)
    (F : ∀ (w : World) (mg : Str → Option Value) (fa : Addr) (h : Heap), (K w.params).In h → h.Ns mainGlobals mg → mg d.name = some (.ref fa) → (∀ x ∈ ts, TabFact (K w.params) mg h x) → LawQ l w (K w.params) k n x mg fa h) :
    PySem.W.WalkO q loose XP YP l.row.toRowW d [] (fun f vs => PySem.call f vs) := by
  refine Att.attach_call hn hdf fun w s₀ s mg mb fa o pm cd doc a vs ns G Y ho hd hcd hmg hobj hints hlen hg => ?_
  have KX := hY w _ Y
  have tf : ∀ x ∈ ts, TabFact (K w.params) mg s.heap x := fun x hx f o fd c e dd vs sl P m1 k1 k2 k3 k4 k5 => by
    obtain ⟨dL, hm, hn1⟩ := List.any_eq_true.mp (List.all_eq_true.mp hrec x hx)
    have hn2 : dL.name = x := beq_iff_eq.mp hn1
    obtain ⟨a2, o2, fd2, c2, P2, h1, h2, h3, h4, h5, h6⟩ := G.T.tab dL hm
    rw [hn2, m1] at h1
    cases h1
    rw [KX _ _ k1] at h2
    cases h2
    rw [k2] at h3
    cases h3
    rw [k3] at h4
    cases h4
    have hcd2 := PySem.W.CodeHd.of h5 h6
    obtain ⟨⟨oc, vc, e1, _, e3, e4⟩, hP⟩ := h6
    rw [KX _ _ k4] at e1
    cases e1
    cases e3
    rw [k5] at e4
    cases e4
    exact ⟨hcd2, hP⟩
  obtain ⟨fd, cs, sp, hT, nT, hC, hb, hsp, hF⟩ := F w mg fa _ KX G.T.g hmg tf
  exact law_callQ KX G.T.g G.T.b G.T.builtins G.T.nolimit hg hT nT hC G.T.bmain hobj hints (Nat.le_trans hlen hn2) hr hF hb (fun H => hsp H a ns hlen) fun H Q e s' z => z
end My
set_option maxHeartbeats 2000000
/-! sorted(xs) of a tuple of ints -/
namespace My
open PySem PySem.Spec PyProof.Rows L2 Evl
section
variable {prog : Program} {w : World} {A : Around} {E : Value → Shared → Prop} {s : Shared}
def gathered (h : Heap) (us : List Value) : Heap := (h.push (seqObj "list" #[] 0)).update h.objs.size (Obj.mapSeq (· ++ us.toArray))
theorem collect_tup {t : Addr} {us : List Value} {Q : List Value → Shared → Prop} (hT : s.heap.IsTuple t us.toArray) (q : Q us { s with heap := gathered s.heap us }) (hz : us.length ≤ sizeLine) : wpAny (model prog w) A (collect (.ref t)) Q E s := by
  obtain ⟨ob, e1, e2, cnt, e3⟩ := id hT
  have up : (s.heap.push (seqObj "list" #[] 0)).get? t = some ob := Heap.get?_push_of_some _ e1
  have new0 : (s.heap.push (seqObj "list" #[] 0)).get? s.heap.objs.size = some (seqObj "list" #[] 0) := Heap.get?_push_size _ rfl
  have isT : (Value.type "tuple" == Value.type "tuple") = true := by rfl
  unfold collect
  refine wpAny_bind (wpAny_runValue (codeAny_builtin entry_proto_collect' (show wpAny _ _ (do again (.builtin "list.__iadd__" ⟨[← newList [], .ref t], []⟩)) _ _ s from wpAny_bind (wpAny_newList (wpAny_pure ⟨Code.quiet_builtin _ (by decide +kernel), codeAny_builtin entry_list_iadd' ?_⟩)))))
  show wpAny _ _ (Builtin.List.listExtendWith (.ref s.heap.objs.size) (.ref t) (.ref s.heap.objs.size)) _ _ { s with heap := s.heap.push (seqObj "list" #[] 0) }
  unfold Builtin.List.listExtendWith
  refine wpAny_bind (wpAny_typeOf (T := "tuple") ⟨ob, up, e2⟩ ?_)
  rw [if_pos (by rw [isT]; simp)]
  refine wpAny_bind (listItems_at up e3 (wpAny_bind (listItems_at new0 rfl ?_)))
  rw [if_neg (by simp)]
  refine wpAny_bind (listUpdate_at new0 rfl (wpAny_pure ?_) (Nat.zero_le _) (by show (#[] ++ us.toArray).size ≤ sizeLine + 1; simp only [Array.size_append, List.size_toArray, List.length_nil]; omega))
  show wpAny (model prog w) A (do let z ← load s.heap.objs.size
                                  match z.data with
                                  | .seq ys _ => pure ys.toList
                                  | _ => unsupported "internal:collect") Q E { s with heap := gathered s.heap us }
  refine wpAny_bind (wpAny_load (get?_update_seq new0 _) ?_)
  show wpAny _ _ (pure ((#[] : Array Value) ++ us.toArray).toList) Q E _
  have e4 : ((#[] : Array Value) ++ us.toArray).toList = us := by simp
  rw [e4]
  exact wpAny_pure q
theorem sorted_tupI {t : Addr} {us : List Value} {ns : List Int} {Q : Value → Shared → Prop} (hT : s.heap.IsTuple t us.toArray) (hI : IntsAre us ns) (h64 : us.length < 64)
    (q : ∀ (out : Array Value) (ms : List Int), IntsAre out.toList ms → ms.Perm ns → ms.Pairwise (· ≤ ·) → Q (.ref (s.heap.objs.size + 1)) { s with heap := sortedAll s.heap us out }) : wpAny (model prog w) A (call (.builtin "sorted") [.ref t]) Q E s := by
  have sz : (gathered s.heap us).objs.size = s.heap.objs.size + 1 := by unfold gathered; rw [Heap.size_update, size_push']
  have there : ((gathered s.heap us).push (seqObj "list" us.toArray 0)).get? (s.heap.objs.size + 1) = some (seqObj "list" us.toArray 0) := by rw [← sz]; exact Heap.get?_push_size _ rfl
  refine Calls.call_function_entry kind_sorted plain_sorted entry_sorted (args_sorted1 _) ?_
  unfold Builtin.«sorted»
  refine wpAny_bind (m := checkCount "sorted" 1 1 _) (wpAny_pure (wpAny_bind (collect_tup hT (wpAny_bind (wpAny_newList ?_)) (by rw [sizeLine_eq]; omega))))
  show wpAny _ _ _ _ _ { s with heap := (gathered s.heap us).push (seqObj "list" us.toArray 0) }
  rw [sz]
  refine wpAny_bind (wpAny_holding (wpAny_call_entry slot_list_sort ⟨_, there, rfl⟩ entry_list_sort (list_sort_tree there hI h64 fun out ms a b c => ⟨_, rfl, wpAny_pure ⟨_, rfl, q out ms a b c⟩⟩) (args_list_sort _)))
end
/-- sorted of a list or a tuple of fewer than 64 ints -/
def rSortedA (K : PySem.W.Frag) : List V → Hp → VK → Prop := fun vs H Q => ∃ (a : Addr) (ns : List Int), vs = [V.ref a] ∧ (SqL K H a (ns.map V.int) ∨ SqT K H a (ns.map V.int)) ∧ ns.length < 64 ∧
  ∀ (ms : List Int) (p : Addr), ms.Perm ns → ms.Pairwise (· ≤ ·) → H p = none → Q (.ref p) (upd H p (.lst (ms.map V.int)))
theorem cr_sortedA {X : Cx} : CallR X (.builtin "sorted") (rSortedA X.K) := by
  intro pins s σ H vs us Q I r h
  obtain ⟨a, ns, rfl, hs, h64, q⟩ := h
  rcases hs with hs | hs
  · exact cr_sorted pins s σ H [.ref a] us Q I r ⟨a, ns, rfl, hs, h64, q⟩
  · obtain ⟨its, rv, hl, _⟩ := I.tuple hs
    rw [Vals.ref1 r]
    have hi := rv.ints
    refine sorted_tupI hl hi (by rw [hi.length]; exact h64) fun out ms h1 h2 h3 => ?_
    obtain ⟨ep, he⟩ := sortedAll_at s.heap its out
    have hz : (ms.map V.int).length ≤ sizeLine := by rw [List.length_map, h2.length_eq, sizeLine_eq]; omega
    exact ⟨.ref _, _, I.laid (t' := s.toks) (o := .lst (ms.map V.int)) (fun _ _ => sortedAll_old) (Nat.le_succ _) ⟨hz, out.toList, ep, vals_of_ints h1, he⟩, rfl, q ms _ h2 h3 (I.hok.fresh (Nat.le_succ _))⟩
theorem cr_sortedK {X : Cx} {K : PySem.W.Frag} (h : X.K = K) : CallR X (.builtin "sorted") (rSortedA K) := h ▸ cr_sortedA
theorem perm_sorted {ms ns ks : List Int} (h1 : ms.Perm ns) (h2 : ms.Pairwise (· ≤ ·)) (hk : ks.Pairwise (· ≤ ·)) : ms = ks ↔ ns.Perm ks := by
  constructor
  · intro e; rw [← e]; exact h1.symm
  · intro e
    exact List.Perm.eq_of_pairwise (fun a b _ _ h h' => Int.le_antisymm h h') h2 hk (h1.trans e)
section
variable {K : PySem.W.Frag} {σ : L2.St} {H : Hp} {ta te tb : TE}
/-- sorted(xs), a new list -/
theorem el_sorted {a : Addr} {ns : List Int} {Z : List V → Prop} (ha : Ev te σ H (.ref a)) (h : SqL K H a (ns.map V.int) ∨ SqT K H a (ns.map V.int)) (h64 : ns.length < 64) : ∀ H1, Ex H H1 → ∀ Q : VK, (∀ p H2 (ms : List Int), ms.Perm ns → ms.Pairwise (· ≤ ·) → H1 p = none → Ex H1 H2 → H2 p = some (.lst (ms.map V.int)) → Q (.ref p) H2) → tCB (rSortedA K) (tCons te tNil) σ H1 Q := fun H1 e Q q =>
  ha H1 e _ fun H2 e2 => ⟨a, ns, rfl, h.imp (ex_l (e.trans e2)) (ex_t (e.trans e2)), h64, fun ms p h1 h2 hp => q p _ ms h1 h2 (fresh_back e2 hp) (e2.trans (Ex.new hp)) upd_same⟩
end
end My
set_option maxHeartbeats 2000000
/-! one of two readings; data indexed, walked, made anew -/
namespace My
open PySem PySem.Spec PyProof.Rows L2 Evl
def tE2 (t u : TE) : TE := fun σ H Q => t σ H Q ∨ u σ H Q
def iE2 (t u : TI) : TI := fun σ H R => t σ H R ∨ u σ H R
theorem pe_2 {X : Cx} {e : Expr} {t u : TE} (h : PE X e t) (h2 : PE X e u) : PE X e (tE2 t u) := ⟨fun pins s σ H Q I q => q.elim (h.run pins s σ H Q I) (h2.run pins s σ H Q I)⟩
theorem pi_2 {X : Cx} {tg e : Expr} {t u : TI} (h : PI X tg e t) (h2 : PI X tg e u) : PI X tg e (iE2 t u) := ⟨fun pins s σ H R I q => q.elim (h.run pins s σ H R I) (h2.run pins s σ H R I)⟩
section
variable {X : Cx} {K : PySem.W.Frag}
theorem call_isiTK (h : X.K = K) : CallR X (.builtin "isinstance") (rIsiT K) := h ▸ call_isiT
theorem pi_aK (h : X.K = K) {tg l : Expr} {tl : TE} (hl : PE X l tl) : PI X tg l (iE2 (iList K tl) (iTup K tl)) := h ▸ pi_2 (pi_list hl) (pi_tup hl)
end
section
variable {K : PySem.W.Frag} {σ : L2.St} {H : Hp} {t u ta tb te tl : TE} {x y z v : V} {D : Ends} {tz tu : TS}
theorem ev_e1 (h : Ev t σ H v) : Ev (tE2 t u) σ H v := fun H1 e Q q => .inl (h H1 e Q q)
theorem ev_e2 (h : Ev u σ H v) : Ev (tE2 t u) σ H v := fun H1 e Q q => .inr (h H1 e Q q)
theorem evd_e1 {d : PyData} (h : EvD K t σ H d) : EvD K (tE2 t u) σ H d := fun H1 e Q q => .inl (h H1 e Q q)
theorem evd_e2 {d : PyData} (h : EvD K u σ H d) : EvD K (tE2 t u) σ H d := fun H1 e Q q => .inr (h H1 e Q q)
theorem dp_tupE {a : Addr} {ds : List PyData} (h : Dp K H (.ref a) (.tuple ds)) : ∃ vs, SqT K H a vs ∧ DpAll K H vs ds := by cases h with | tup h1 h2 => exact ⟨_, h1, h2⟩
theorem dp_lstE {a : Addr} {ds : List PyData} (h : Dp K H (.ref a) (.list ds)) : ∃ vs, SqL K H a vs ∧ DpAll K H vs ds := by cases h with | lst h1 h2 => exact ⟨_, h1, h2⟩
theorem dp_refT {v : V} {ds : List PyData} (h : Dp K H v (.tuple ds)) : ∃ a, v = .ref a := by cases h; exact ⟨_, rfl⟩
theorem dp_refL {v : V} {ds : List PyData} (h : Dp K H v (.list ds)) : ∃ a, v = .ref a := by cases h; exact ⟨_, rfl⟩
theorem dp_intE {v : V} {n : Int} (h : Dp K H v (.int n)) : v = .int n := by cases h; rfl
theorem dpAll_intE : ∀ {ns : List Int} {vs : List V}, DpAll K H vs (pints ns) → vs = ns.map V.int
  | [], _, h => by cases h; rfl
  | n :: ns, _, h => by
    cases h with
    | cons h1 h2 => rw [dp_intE h1, dpAll_intE (ns := ns) h2]; rfl
theorem dp_rowT {v : V} {ns : List Int} (h : Dp K H v (.tuple (pints ns))) : ∃ a, v = .ref a ∧ SqT K H a (ns.map V.int) := by
  obtain ⟨a, rfl⟩ := dp_refT h
  obtain ⟨vs, h1, h2⟩ := dp_tupE h
  exact ⟨a, rfl, by rw [← dpAll_intE h2]; exact h1⟩
theorem dp_rowL {v : V} {ns : List Int} (h : Dp K H v (.list (pints ns))) : ∃ a, v = .ref a ∧ SqL K H a (ns.map V.int) := by
  obtain ⟨a, rfl⟩ := dp_refL h
  obtain ⟨vs, h1, h2⟩ := dp_lstE h
  exact ⟨a, rfl, by rw [← dpAll_intE h2]; exact h1⟩
theorem ev_ofI {n : Int} (h : EvD K te σ H (.int n)) : Ev te σ H (.int n) := fun H1 e Q q => h H1 e _ fun v H2 e2 hv => by rw [dp_intE hv]; exact q H2 e2
theorem evd_is {d d' : PyData} (h : EvD K te σ H d) (e : d = d') : EvD K te σ H d' := e ▸ h
theorem evd_ixT {ds : List PyData} {d : PyData} {j : Nat} (h : EvD K ta σ H (.tuple ds)) (hb : Ev tb σ H (.int (j : Int))) (hd : ds[j]? = some d) : EvD K (tOp (rIxT K) ta tb) σ H d := fun H1 e Q q =>
  h H1 e _ fun v H2 e2 hv => hb H2 (e.trans e2) _ fun H3 e3 => by
    obtain ⟨a, rfl⟩ := dp_refT hv
    obtain ⟨vs, h1, h2⟩ := dp_tupE hv
    obtain ⟨x, hx, hdx⟩ := dpAll_at h2 hd
    exact ⟨a, vs, _, x, rfl, rfl, ex_t ((nw_ex e e2).trans e3) h1, atI_nat hx, q x H3 (e2.trans e3) (dp_mono (nw_on e3) _ _ hdx)⟩
theorem evd_ixL {ds : List PyData} {d : PyData} {j : Nat} (h : EvD K ta σ H (.list ds)) (hb : Ev tb σ H (.int (j : Int))) (hd : ds[j]? = some d) : EvD K (tOp (rIxL K) ta tb) σ H d := fun H1 e Q q =>
  h H1 e _ fun v H2 e2 hv => hb H2 (e.trans e2) _ fun H3 e3 => by
    obtain ⟨a, rfl⟩ := dp_refL hv
    obtain ⟨vs, h1, h2⟩ := dp_lstE hv
    obtain ⟨x, hx, hdx⟩ := dpAll_at h2 hd
    exact ⟨a, vs, _, x, rfl, rfl, ex_l ((nw_ex e e2).trans e3) h1, atI_nat hx, q x H3 (e2.trans e3) (dp_mono (nw_on e3) _ _ hdx)⟩
def sq2 (t : Bool) (ds : List PyData) : PyData := if t then .tuple ds else .list ds
theorem dp_sq2 {t : Bool} {v : V} {ds : List PyData} (h : Dp K H v (sq2 t ds)) : ∃ a vs, v = .ref a ∧ (if t then SqT K H a vs else SqL K H a vs) ∧ DpAll K H vs ds := by
  cases t with
  | true =>
    obtain ⟨a, rfl⟩ := dp_refT h
    obtain ⟨vs, h1, h2⟩ := dp_tupE h
    exact ⟨a, vs, rfl, h1, h2⟩
  | false =>
    obtain ⟨a, rfl⟩ := dp_refL h
    obtain ⟨vs, h1, h2⟩ := dp_lstE h
    exact ⟨a, vs, rfl, h1, h2⟩
theorem ev_lenD {t : Bool} {ds : List PyData} (h : EvD K te σ H (sq2 t ds)) : Ev (tCB (fun vs H Q => ∃ p ys, vs = [V.ref p] ∧ (SqL K H p ys ∨ SqT K H p ys) ∧ Q (.int (ys.length : Int)) H) (tCons te tNil)) σ H (.int (ds.length : Int)) := fun H1 e Q q =>
  h H1 e _ fun v H2 e2 hv => by
    obtain ⟨a, vs, rfl, h1, h2⟩ := dp_sq2 hv
    refine ⟨a, vs, rfl, ?_, by rw [dpAll_len _ _ h2]; exact q H2 e2⟩
    cases t with
    | true => exact .inr (ex_t (nw_ex e e2) h1)
    | false => exact .inl (ex_l (nw_ex e e2) h1)
/-- tuple(xs), list(xs) of data -/
theorem evd_tuple {t : Bool} {ds : List PyData} (h : EvD K te σ H (sq2 t ds)) : EvD K (tCB (fun vs H Q => ∃ p ys, vs = [V.ref p] ∧ ((SqL K H p ys ∧ ∀ l, H l = none → Q (.ref l) (upd H l (.tup ys))) ∨ (SqT K H p ys ∧ Q (.ref p) H))) (tCons te tNil)) σ H (.tuple ds) := fun H1 e Q q =>
  h H1 e _ fun v H2 e2 hv => by
    obtain ⟨a, vs, rfl, h1, h2⟩ := dp_sq2 hv
    refine ⟨a, vs, rfl, ?_⟩
    cases t with
    | true => exact .inr ⟨ex_t (nw_ex e e2) h1, q (.ref a) H2 e2 (.tup h1 h2)⟩
    | false => exact .inl ⟨ex_l (nw_ex e e2) h1, fun l hl => q (.ref l) _ (e2.trans (Ex.new hl)) (.tup (st_of (by rw [nw_new (fresh_back e2 hl)]; exact upd_same)) (dpAll_mono (nw_on (Ex.new hl)) _ _ h2))⟩
theorem evd_list {t : Bool} {ds : List PyData} (h : EvD K te σ H (sq2 t ds)) : EvD K (tCB (fun vs H Q => ∃ p ys, vs = [V.ref p] ∧ (SqL K H p ys ∨ SqT K H p ys) ∧ ∀ l, H l = none → Q (.ref l) (upd H l (.lst ys))) (tCons te tNil)) σ H (.list ds) := fun H1 e Q q =>
  h H1 e _ fun v H2 e2 hv => by
    obtain ⟨a, vs, rfl, h1, h2⟩ := dp_sq2 hv
    refine ⟨a, vs, rfl, ?_, fun l hl => q (.ref l) _ (e2.trans (Ex.new hl)) (.lst (sq_of (by rw [nw_new (fresh_back e2 hl)]; exact upd_same)) (dpAll_mono (nw_on (Ex.new hl)) _ _ h2))⟩
    cases t with
    | true => exact .inr (ex_t (nw_ex e e2) h1)
    | false => exact .inl (ex_l (nw_ex e e2) h1)
/-- [e for i in range(n)] -/
theorem evd_lcR {n : Int} {j : Nat} {vs : List Nat} (d : Nat → PyData) (h : Ev te σ H (.int n)) (hn : 0 ≤ n ∧ n ≤ 40000) (hw : ∀ x, wipe ((wipe σ vs).set j (some x)) vs = wipe σ vs)
    (he : ∀ i : Nat, (i : Int) < n → EvD K ta ((wipe σ vs).set j (some (.int (i : Int)))) H (d i)) : EvD K (tLc (iRng1 (tCons te tNil)) (gName j) tYes ta vs) σ H (.list ((List.range n.toNat).map d)) := by
  have := evd_lc (K := K) (σ := σ) (H := H) (te := ta) (wi := iRng1 (tCons te tNil)) (J := Itr 0 n.toNat) (n := n.toNat) (j := j) (t := tYes) (vs := vs) (fun _ => true) d (fun H1 e => gets_r1 (h.mono e) (by omega)) walk_range (fun _ _ => trivial) (by omega) (fun i H1 x H2 y => y.1) hw (fun i x H1 hi e y => ⟨et_yes, fun _ => by
    have hx : x = .int (i : Int) := y.2.trans (congrArg V.int (Int.zero_add _))
    rw [hx]; exact he i (by omega)⟩)
  rwa [List.filter_eq_self.mpr (fun _ _ => rfl)] at this
/-- [e for x in xs], xs data -/
theorem evd_lcT {a : Addr} {ds : List PyData} {j : Nat} {vs : List Nat} (d : Nat → PyData) (h : Ev tl σ H (.ref a)) (hd : Dp K H (.ref a) (.tuple ds)) (hn : ds.length ≤ 40000) (hw : ∀ x, wipe ((wipe σ vs).set j (some x)) vs = wipe σ vs)
    (he : ∀ (i : Nat) (x : V) (dx : PyData), ds[i]? = some dx → Dp K H x dx → EvD K ta ((wipe σ vs).set j (some x)) H (d i)) : EvD K (tLc (iTup K tl) (gName j) tYes ta vs) σ H (.list ((List.range ds.length).map d)) := by
  obtain ⟨us, h1, h2⟩ := dp_tupE hd
  have hl := dpAll_len _ _ h2
  have := evd_lc (K := K) (σ := σ) (H := H) (te := ta) (wi := iTup K tl) (J := Itt K a) (n := us.length) (j := j) (t := tYes) (vs := vs) (fun _ => true) d (fun H1 e => gets_tup (h.mono e) (ex_t e h1)) (walk_tup (xs := us)) (fun H' e => ex_t e h1) (by omega) (fun i H1 x H2 y => y.1) hw (fun i x H1 hi e y => ⟨et_yes, fun _ => by
    obtain ⟨dx, hdx, hv⟩ := dpAll_get _ _ _ _ h2 y.2
    exact he i x dx hdx hv⟩)
  rw [List.filter_eq_self.mpr (fun _ _ => rfl), hl] at this
  exact this
theorem evd_lcL {a : Addr} {ds : List PyData} {j : Nat} {vs : List Nat} (d : Nat → PyData) (h : Ev tl σ H (.ref a)) (hd : Dp K H (.ref a) (.list ds)) (hn : ds.length ≤ 40000) (hw : ∀ x, wipe ((wipe σ vs).set j (some x)) vs = wipe σ vs)
    (he : ∀ (i : Nat) (x : V) (dx : PyData), ds[i]? = some dx → Dp K H x dx → EvD K ta ((wipe σ vs).set j (some x)) H (d i)) : EvD K (tLc (iList K tl) (gName j) tYes ta vs) σ H (.list ((List.range ds.length).map d)) := by
  obtain ⟨us, h1, h2⟩ := dp_lstE hd
  have hl := dpAll_len _ _ h2
  have := evd_lc (K := K) (σ := σ) (H := H) (te := ta) (wi := iList K tl) (J := Itl K a) (n := us.length) (j := j) (t := tYes) (vs := vs) (fun _ => true) d (fun H1 e => gets_list (h.mono e) (ex_l e h1)) (walk_list (xs := us)) (fun H' e => ex_l e h1) (by omega) (fun i H1 x H2 y => y.1) hw (fun i x H1 hi e y => ⟨et_yes, fun _ => by
    obtain ⟨dx, hdx, hv⟩ := dpAll_get _ _ _ _ h2 y.2
    exact he i x dx hdx hv⟩)
  rw [List.filter_eq_self.mpr (fun _ _ => rfl), hl] at this
  exact this
end
end My
/-! squares of signs as rows, their renamings -/
namespace Mm
def iota (n : Nat) : List Int := (List.range n).map fun i : Nat => (i : Int)
theorem iota_len (n : Nat) : (iota n).length = n := by unfold iota; rw [List.length_map, List.length_range]
theorem iota_get {n i : Nat} (h : i < n) : (iota n)[i]? = some (i : Int) := by unfold iota; rw [List.getElem?_map, List.getElem?_range h]; rfl
theorem iota_mem {n : Nat} {x : Int} : x ∈ iota n ↔ 0 ≤ x ∧ x < n := by
  unfold iota
  rw [List.mem_map]
  constructor
  · rintro ⟨i, hi, rfl⟩; have := List.mem_range.mp hi; omega
  · rintro ⟨h1, h2⟩; exact ⟨x.toNat, List.mem_range.mpr (by omega), by omega⟩
theorem iota_sorted (n : Nat) : (iota n).Pairwise (· ≤ ·) := by
  unfold iota
  rw [List.pairwise_map]
  exact (List.pairwise_lt_range).imp fun h => by omega
def cel (rows : List (List Int)) (r c : Nat) : Int := (rows.getD r []).getD c 0
def col (rows : List (List Int)) (c : Nat) : List Int := (List.range rows.length).map fun r => cel rows r c
structure Lat (n : Nat) (rows : List (List Int)) : Prop where
  len : rows.length = n
  row : ∀ r, r < n → (rows.getD r []).Perm (iota n)
  col : ∀ c, c < n → (col rows c).Perm (iota n)
def latB (n : Nat) (rows : List (List Int)) : Bool := decide (rows.length = n) && ((List.range n).all fun r => (rows.getD r []).isPerm (iota n)) && (List.range n).all fun c => (Mm.col rows c).isPerm (iota n)
theorem lat_of {n : Nat} {rows : List (List Int)} (h : latB n rows = true) : Lat n rows := by
  unfold latB at h
  simp only [Bool.and_eq_true, decide_eq_true_eq, List.all_eq_true, List.mem_range, List.isPerm_iff] at h
  exact ⟨h.1.1, h.1.2, h.2⟩
theorem perm_in {n : Nat} {l : List Int} (h : l.Perm (iota n)) {i : Nat} (hi : i < n) : 0 ≤ l.getD i 0 ∧ l.getD i 0 < n := by
  have hl : l.length = n := h.length_eq.trans (iota_len n)
  rw [List.getD_eq_getElem?_getD, List.getElem?_eq_getElem (by omega)]
  exact iota_mem.mp (h.mem_iff.mp (List.getElem_mem _))
theorem Lat.rlen {n : Nat} {rows : List (List Int)} (L : Lat n rows) {r : Nat} (h : r < n) : (rows.getD r []).length = n := (L.row r h).length_eq.trans (iota_len n)
theorem Lat.cin {n : Nat} {rows : List (List Int)} (L : Lat n rows) {r c : Nat} (h : r < n) (hc : c < n) : 0 ≤ cel rows r c ∧ cel rows r c < n := perm_in (L.row r h) hc
theorem range_map_get {α : Type} (l : List Int) (n : Nat) (h : l.length = n) (F : Int → α) : (List.range n).map (fun i => F (l.getD i 0)) = l.map F := by
  subst h
  apply List.ext_getElem?
  intro i
  rw [List.getElem?_map, List.getElem?_map]
  by_cases hi : i < l.length
  · rw [List.getElem?_range hi, List.getElem?_eq_getElem hi]
    show some (F (l.getD i 0)) = _
    rw [List.getD_eq_getElem?_getD, List.getElem?_eq_getElem hi]; rfl
  · rw [List.getElem?_eq_none (by simpa using hi), List.getElem?_eq_none (by simpa using hi)]; rfl
theorem iota_map {α : Type} (n : Nat) (F : Int → α) : (iota n).map F = (List.range n).map fun i : Nat => F (i : Int) := by unfold iota; rw [List.map_map]; rfl
/-- a renaming of a row that has all, by names that are all -/
theorem perm_map {n : Nat} {l s : List Int} (h : l.Perm (iota n)) (hs : s.Perm (iota n)) : (l.map fun x => s.getD x.toNat 0).Perm (iota n) := by
  refine (h.map _).trans ?_
  rw [iota_map]
  have e : (List.range n).map (fun i : Nat => s.getD ((i : Int)).toNat 0) = (List.range n).map fun i => s.getD i 0 := List.map_congr_left fun i _ => by rw [Int.toNat_natCast]
  rw [e, range_map_get s n (hs.length_eq.trans (iota_len n)) (fun x => x), List.map_id']
  exact hs
theorem getD_map_range {α : Type} (n : Nat) (F : Nat → α) (i : Nat) (d : α) (h : i < n) : ((List.range n).map F).getD i d = F i := by
  rw [List.getD_eq_getElem?_getD, List.getElem?_map, List.getElem?_range h]; rfl
def mkRows (n : Nat) (F : Nat → Nat → Int) : List (List Int) := (List.range n).map fun r => (List.range n).map fun c => F r c
theorem mk_len (n : Nat) (F : Nat → Nat → Int) : (mkRows n F).length = n := by unfold mkRows; rw [List.length_map, List.length_range]
theorem mk_row {n : Nat} {F : Nat → Nat → Int} {r : Nat} (h : r < n) : (mkRows n F).getD r [] = (List.range n).map fun c => F r c := getD_map_range n _ r [] h
theorem mk_cel {n : Nat} {F : Nat → Nat → Int} {r c : Nat} (h : r < n) (hc : c < n) : cel (mkRows n F) r c = F r c := by unfold cel; rw [mk_row h, getD_map_range n _ c 0 hc]
theorem mk_col {n : Nat} {F : Nat → Nat → Int} {c : Nat} (hc : c < n) : col (mkRows n F) c = (List.range n).map fun r => F r c := by
  unfold col
  rw [mk_len]
  exact List.map_congr_left fun r hr => mk_cel (List.mem_range.mp hr) hc
theorem mk_self {n : Nat} {rows : List (List Int)} (L : Lat n rows) : mkRows n (cel rows) = rows := by
  apply List.ext_getElem?
  intro r
  unfold mkRows
  rw [List.getElem?_map]
  by_cases hr : r < n
  · rw [List.getElem?_range hr]
    have h2 := L.len
    rw [List.getElem?_eq_getElem (by omega)]
    show some ((List.range n).map fun c => cel rows r c) = _
    congr 1
    have h3 : rows.getD r [] = rows[r] := by rw [List.getD_eq_getElem?_getD, List.getElem?_eq_getElem (by omega)]; rfl
    have := range_map_get (rows.getD r []) n (L.rlen hr) (fun x => x)
    rw [List.map_id'] at this
    rw [← h3]; exact this
  · rw [List.getElem?_eq_none (by simpa using hr), List.getElem?_eq_none (by have := L.len; omega)]; rfl
/-- rows, columns and signs by other names -/
def ren (n : Nat) (P : List (List Int)) (rp cp sp : List Int) : List (List Int) := mkRows n fun r c => sp.getD (cel P (rp.getD r 0).toNat (cp.getD c 0).toNat).toNat 0
theorem lat_ren {n : Nat} {P : List (List Int)} {rp cp sp : List Int} (L : Lat n P) (hr : rp.Perm (iota n)) (hc : cp.Perm (iota n)) (hs : sp.Perm (iota n)) : Lat n (ren n P rp cp sp) := by
  have lr := hr.length_eq.trans (iota_len n)
  have lc := hc.length_eq.trans (iota_len n)
  refine ⟨mk_len _ _, fun r h => ?_, fun c h => ?_⟩
  · unfold ren
    rw [mk_row h]
    have ha := perm_in hr h
    generalize rp.getD r 0 = a at ha ⊢
    rw [range_map_get cp n lc (fun x => sp.getD (cel P a.toNat x.toNat).toNat 0)]
    refine (hc.map _).trans ?_
    rw [iota_map]
    have e : (List.range n).map (fun i : Nat => sp.getD (cel P a.toNat ((i : Int)).toNat).toNat 0) = (P.getD a.toNat []).map fun y => sp.getD y.toNat 0 := by
      rw [← range_map_get (P.getD a.toNat []) n (L.rlen (by omega)) (fun y => sp.getD y.toNat 0)]
      exact List.map_congr_left fun i _ => by rw [Int.toNat_natCast]; rfl
    rw [e]
    exact perm_map (L.row a.toNat (by omega)) hs
  · unfold ren
    rw [mk_col h]
    have ha := perm_in hc h
    generalize cp.getD c 0 = a at ha ⊢
    rw [range_map_get rp n lr (fun x => sp.getD (cel P x.toNat a.toNat).toNat 0)]
    refine (hr.map _).trans ?_
    rw [iota_map]
    have e : (List.range n).map (fun i : Nat => sp.getD (cel P ((i : Int)).toNat a.toNat).toNat 0) = (col P a.toNat).map fun y => sp.getD y.toNat 0 := by
      unfold col
      rw [List.map_map, L.len]
      exact List.map_congr_left fun i _ => by rw [Int.toNat_natCast]; rfl
    rw [e]
    exact perm_map (L.col a.toNat (by omega)) hs
/-- rows and columns exchanged -/
theorem lat_turn {n : Nat} {P : List (List Int)} (L : Lat n P) : Lat n (mkRows n fun r c => cel P c r) := by
  refine ⟨mk_len _ _, fun r h => ?_, fun c h => ?_⟩
  · rw [mk_row h]
    have := L.col r h
    unfold col at this
    rw [L.len] at this; exact this
  · rw [mk_col h]
    have := range_map_get (P.getD c []) n (L.rlen h) (fun x => x)
    rw [List.map_id'] at this
    rw [show (fun r => cel P c r) = fun i => (P.getD c []).getD i 0 from rfl, this]
    exact L.row c h
/-- signs by other names -/
theorem lat_signs {n : Nat} {P : List (List Int)} {sp : List Int} (L : Lat n P) (hs : sp.Perm (iota n)) : Lat n (P.map fun row => row.map fun x => sp.getD x.toNat 0) := by
  have hg : ∀ r, r < n → (P.map fun row => row.map fun x => sp.getD x.toNat 0).getD r [] = (P.getD r []).map fun x => sp.getD x.toNat 0 := fun r hr => by
    have := L.len
    rw [List.getD_eq_getElem?_getD, List.getElem?_map, List.getD_eq_getElem?_getD, List.getElem?_eq_getElem (by omega)]; rfl
  refine ⟨by rw [List.length_map, L.len], fun r h => by rw [hg r h]; exact perm_map (L.row r h) hs, fun c h => ?_⟩
  have e : col (P.map fun row => row.map fun x => sp.getD x.toNat 0) c = (col P c).map fun x => sp.getD x.toNat 0 := by
    unfold col
    rw [List.length_map, List.map_map]
    refine List.map_congr_left fun r hr => ?_
    have hr2 := List.mem_range.mp hr
    rw [L.len] at hr2
    show (List.getD _ r []).getD c 0 = sp.getD (cel P r c).toNat 0
    rw [hg r hr2, List.getD_eq_getElem?_getD, List.getElem?_map]
    unfold cel
    have := L.rlen hr2
    generalize P.getD r [] = l at this ⊢
    rw [List.getD_eq_getElem?_getD (l := l), List.getElem?_eq_getElem (show c < l.length by omega)]; rfl
  rw [e]
  exact perm_map (L.col c h) hs
/-! ### the drawn squares -/
def fsum (p : Int) : Nat → Int → Int → Int → Int → Int
  | 0, t, _, _, _ => t
  | n + 1, t, s, a, b => fsum p n (t + (a % p + b % p) % p * s) (s * p) (a / p) (b / p)
def fs2 (a b : Int) : Int := fsum 2 4 0 1 a b
/-- products in the field of 4 elements -/
def fp4 (a b : Int) : Int := if a = 0 ∨ b = 0 then 0 else ([1, 2, 3] : List Int).getD ((a - 1 + (b - 1)) % 3).toNat 0
def plainOf (kind : Nat) : Nat × List (List Int) :=
  if kind < 6 then (kind + 2, mkRows (kind + 2) fun r c => ((r : Int) + c) % ((kind + 2 : Nat) : Int))
  else if kind = 6 then (5, mkRows 5 fun r c => ((r : Int) + 2 * c) % 5)
  else if kind = 7 then (4, mkRows 4 fun r c => fs2 r c)
  else if kind = 8 then (4, mkRows 4 fun r c => fs2 r (fp4 2 c))
  else if kind = 9 then (5, [[0, 1, 2, 3, 4], [1, 0, 3, 4, 2], [2, 4, 0, 1, 3], [3, 2, 4, 0, 1], [4, 3, 1, 2, 0]])
  else if kind = 10 then (6, [[0, 1, 2, 3, 4, 5], [1, 2, 0, 4, 5, 3], [2, 0, 1, 5, 3, 4], [3, 5, 4, 0, 2, 1], [4, 3, 5, 1, 0, 2], [5, 4, 3, 2, 1, 0]])
  else (4, mkRows 4 fun r c => (3 * (r : Int) + c) % 4)
theorem plain_all : (List.range 12).all (fun k => latB (plainOf k).1 (plainOf k).2 && decide (2 ≤ (plainOf k).1) && decide ((plainOf k).1 ≤ 7)) = true := by decide +kernel
theorem plain_lat {k : Nat} (h : k < 12) : Lat (plainOf k).1 (plainOf k).2 ∧ 2 ≤ (plainOf k).1 ∧ (plainOf k).1 ≤ 7 := by
  have := List.all_eq_true.mp plain_all k (List.mem_range.mpr h)
  simp only [Bool.and_eq_true, decide_eq_true_eq] at this
  exact ⟨lat_of this.1.1, this.1.2, this.2⟩
def otherOf (n kind : Nat) : List (List Int) :=
  if kind = 2 ∧ n = 4 then mkRows n fun r c => fs2 r (fp4 3 c)
  else if kind = 3 ∧ (n = 3 ∨ n = 5 ∨ n = 7) then mkRows n fun r c => ((r : Int) + 3 * c + c * (if n = 3 then 1 else 0)) % (n : Int)
  else mkRows n fun r c => ((r : Int) + ((n : Int) - 1) * c) % (n : Int)
theorem other_all : ((List.range' 2 6).all fun n => (List.range' 2 2).all fun k => latB n (otherOf n k)) = true := by decide +kernel
theorem other_lat {n k : Nat} (h2 : 2 ≤ n) (h7 : n ≤ 7) (hk : k = 2 ∨ k = 3) : Lat n (otherOf n k) := by
  have h1 := List.all_eq_true.mp other_all n (List.mem_range'_1.mpr ⟨h2, by omega⟩)
  exact lat_of (List.all_eq_true.mp h1 k (List.mem_range'_1.mpr ⟨by omega, by omega⟩))
/-! ### the first pair that stands twice -/
def prAt (n : Nat) (one other : List (List Int)) (t : Nat) : Int × Int := (cel one (t / n) (t % n), cel other (t / n) (t % n))
def NoRep (n : Nat) (one other : List (List Int)) (t : Nat) : Prop := ∀ s u, s < u → u < t → prAt n one other s ≠ prAt n one other u
/-- s, t: the earlier and the later cell, none: no pair stands twice -/
def Rep (n : Nat) (one other : List (List Int)) : Option (Nat × Nat) → Prop
  | none => NoRep n one other (n * n)
  | some (s, t) => s < t ∧ t < n * n ∧ prAt n one other s = prAt n one other t ∧ NoRep n one other t
theorem rep_uniq {n : Nat} {one other : List (List Int)} {a b : Option (Nat × Nat)} (ha : Rep n one other a) (hb : Rep n one other b) : a = b := by
  cases a with
  | none =>
    cases b with
    | none => rfl
    | some p => obtain ⟨s, t⟩ := p; obtain ⟨h1, h2, h3, h4⟩ := hb; exact absurd h3 (ha s t h1 h2)
  | some p =>
    obtain ⟨s, t⟩ := p
    obtain ⟨h1, h2, h3, h4⟩ := ha
    cases b with
    | none => exact absurd h3 (hb s t h1 h2)
    | some q =>
      obtain ⟨s', t'⟩ := q
      obtain ⟨g1, g2, g3, g4⟩ := hb
      have ht : t = t' := by
        rcases Nat.lt_trichotomy t t' with h | h | h
        · exact absurd h3 (g4 s t h1 h)
        · exact h
        · exact absurd g3 (h4 s' t' g1 h)
      subst ht
      have hs : s = s' := by
        rcases Nat.lt_trichotomy s s' with h | h | h
        · exact absurd (h3.trans g3.symm) (h4 s s' h g1)
        · exact h
        · exact absurd (g3.trans h3.symm) (h4 s' s h h1)
      rw [hs]
theorem rep_swap {n : Nat} {one other : List (List Int)} {a : Option (Nat × Nat)} (h : Rep n one other a) : Rep n other one a := by
  have key : ∀ s u, prAt n one other s = prAt n one other u ↔ prAt n other one s = prAt n other one u := fun s u => by
    unfold prAt
    rw [Prod.mk.injEq, Prod.mk.injEq]
    exact And.comm
  have nr : ∀ t, NoRep n one other t → NoRep n other one t := fun t h s u h1 h2 e => h s u h1 h2 ((key s u).mpr e)
  cases a with
  | none => exact nr _ h
  | some p => obtain ⟨s, t⟩ := p; obtain ⟨h1, h2, h3, h4⟩ := h; exact ⟨h1, h2, (key s t).mp h3, nr _ h4⟩
end Mm
set_option maxHeartbeats 2000000
/-! dicts of pairs, places in tuples, ranges that fall, squares as data -/
namespace My
open PySem PySem.Spec PyProof.Rows L2 Evl
/-- y in d -/
def rInDc : R2 := fun y x H Q => ∃ a o, x = .ref a ∧ DGet H a y o ∧ Q (.bl o.isSome) H
theorem op_inDc {X : Cx} (hu : X.A.units + 64 < cLine) : OpR X (compareOp .In) rInDc := by
  intro pins s σ H y x v u Q I ry rx h
  obtain ⟨a, o, rfl, g, q⟩ := h
  cases (show u = Value.ref a from rx)
  exact d_in (by omega) I g ry fun s' I' => ⟨.bl _, H, I', rfl, q⟩
theorem op_inK {X : Cx} {K : PySem.W.Frag} (h : X.K = K) : OpR X (compareOp .In) (rIn K false) := h ▸ op_in_seq
theorem op_niK {X : Cx} {K : PySem.W.Frag} (h : X.K = K) : OpR X (compareOp .NotIn) (rIn K true) := h ▸ op_notIn_seq
/-- xs.index(y), a tuple of plain values -/
def rIndexT (K : PySem.W.Frag) : V → List V → Hp → VK → Prop := fun x xs H Q => ∃ (a : Addr) (ys : List V) (y : V) (j : Nat) (z : V), x = V.ref a ∧ xs = [y] ∧ SqT K H a ys ∧ flatV y = true ∧ ys.all flatV = true ∧ ys[j]? = some z ∧ eqV z y = true ∧ (∀ (m : Nat) (z' : V), m < j → ys[m]? = some z' → eqV z' y = false) ∧ Q (.int (j : Nat)) H
theorem mt_indexT {X : Cx} : MtR X "tuple.index" (rIndexT X.K) := by
  intro pins s σ H x xs v us Q I rx rxs h
  obtain ⟨a, ys, y, j, z, rfl, rfl, hs, fy, fys, hz, hzj, hno, q⟩ := h
  cases rx
  obtain ⟨uy, rfl, ry⟩ := vals1 rxs
  obtain ⟨its, rv, pl, hlen⟩ := I.tuple hs
  obtain ⟨⟨cls, dd, data, sl⟩, ho, hc, n, hd⟩ := pl
  simp only at hc hd
  subst hc hd
  have place : ∀ (m : Nat) (w : V), ys[m]? = some w → ∃ hm : m < its.toArray.size, eqU y its.toArray[m] = eqV w y := fun m w hw => by
    obtain ⟨u, hu, ru⟩ := rv.get hw
    obtain ⟨h1, h2⟩ := List.getElem?_eq_some_iff.mp hu
    refine ⟨by simpa using h1, ?_⟩
    have e1 : its.toArray[m]'(by simpa using h1) = u := by simpa using h2
    rw [e1, eqU_of ru (flat_at fys hw)]
  obtain ⟨hj, ej⟩ := place j z hz
  refine call_meets PySem.F.slot_tuple_index ⟨_, ho, rfl⟩ PySem.F.entry_tuple_index (PySem.F.args_tuple_index_2 _ _) (TI.tuple_indexAt a its.toArray n dd sl uy (eqU y) j hj (ej.trans hzj) fun m hm hmj => ?_) ⟨ho, fun w hw => mem_eqAt ry fy rv fys w (by simpa using hw), ⟨.int (j : Nat), H, I.tok _, ⟨_, rfl⟩, q⟩⟩
  have hl := rv.length
  have hm2 : m < its.length := by simpa using hm
  have hw := List.getElem?_eq_getElem (l := ys) (i := m) (by omega)
  obtain ⟨_, e2⟩ := place m _ hw
  rw [e2]
  exact hno m _ hmj hw
theorem mt_indexTK {X : Cx} {K : PySem.W.Frag} (h : X.K = K) : MtR X "tuple.index" (rIndexT K) := h ▸ mt_indexT
theorem mt_indexLK {X : Cx} {K : PySem.W.Frag} (h : X.K = K) : MtR X "list.index" (rIndex K) := h ▸ mt_index
section
variable {K : PySem.W.Frag} {σ : L2.St} {H : Hp} {ta tb tc te tv : TE} {x y z v : V} {D : Ends} {tz : TS}
theorem gets_r3 {lo n : Int} (h : Ev ta σ H (.int lo)) (h2 : Ev tb σ H (.int n)) (h3 : Ev tc σ H (.int (-1))) (hn : -(2 ^ 62) ≤ lo ∧ lo < 2 ^ 62 ∧ -(2 ^ 62) ≤ n ∧ n < 2 ^ 62) : Gets (iRng3 (tCons ta (tCons tb (tCons tc tNil)))) σ H (Itc lo (-1) (lo - n).toNat) :=
  fun R q => h H (Ex.refl H) _ fun H1 e => h2 H1 e _ fun H2 e2 => h3 H2 (e.trans e2) _ fun H3 e3 => ⟨lo, n, -1, _, rfl, RgC.neg hn.1 hn.2.1 hn.2.2.1 hn.2.2.2, q H3 ((e.trans e2).trans e3)⟩
/-- names[i], names[j] = names[j], names[i] -/
theorem s_swap {l : Addr} {xs : List V} {i j : Nat} {a b : V} {t1 t2 t3 t4 : TE} (hl : H l = some (.lst xs)) (h1 : ∀ H1, Ex H H1 → Ev t1 σ H1 b) (h2 : ∀ H1, Ex H H1 → Ev t2 σ H1 a) (ho : ∀ H1, Ev ta σ H1 (.ref l)) (hi : ∀ H1, Ev tb σ H1 (.int (i : Int))) (ho2 : ∀ H1, Ev t3 σ H1 (.ref l)) (hj : ∀ H1, Ev t4 σ H1 (.int (j : Int))) (hi2 : i < xs.length) (hj2 : j < xs.length)
    (k : ∀ H1, Ex H H1 → D.nx σ (upd H1 l (.lst ((xs.set i b).set j a)))) :
    tAsg (tTup (tCons t1 (tCons t2 tNil))) (gTup K 2 (gCons (gSub ta tb rSetL) (gCons (gSub t3 t4 rSetL) gNil))) D σ H :=
  h1 H (Ex.refl H) H (Ex.refl H) _ fun H1 e1 => h2 H1 e1 H1 (Ex.refl _) _ fun H2 e2 => ⟨sz_of (by show 2 ≤ 100000; decide), fun p hp => by
    have e12 := e1.trans e2
    have hlp : l ≠ p := ne_of_none (e12 l _ hl) hp
    refine ⟨p, [b, a], rfl, st_of upd_same, rfl, b, [a], rfl, ?_⟩
    refine ho _ _ (Ex.refl _) _ fun H3 e3 => hi _ _ (Ex.refl _) _ fun H4 e4 => ?_
    have e04 : Ex H H4 := ((e12.trans (Ex.new hp)).trans e3).trans e4
    refine ⟨l, xs, (i : Int), i, rfl, rfl, e04 l _ hl, ixN_nat hi2, a, [], rfl, ?_⟩
    refine ho2 _ _ (Ex.refl _) _ fun H5 e5 => hj _ _ (Ex.refl _) _ fun H6 e6 => ?_
    have h6 : H6 l = some (.lst (xs.set i b)) := (e5.trans e6) l _ upd_same
    refine ⟨l, xs.set i b, (j : Int), j, rfl, rfl, h6, ixN_nat (by rw [List.length_set]; exact hj2), rfl, ?_⟩
    have e7 : ∃ H7, Ex H H7 ∧ upd H6 l (.lst ((xs.set i b).set j a)) = upd H7 l (.lst ((xs.set i b).set j a)) := by
      refine ⟨fun c => if c = l then some (.lst xs) else H6 c, fun c o hc => ?_, ?_⟩
      · show (if c = l then _ else _) = _
        by_cases hz : c = l
        · rw [if_pos hz, ← hl, ← hz]; exact hc
        · rw [if_neg hz]
          refine (e5.trans e6) c o ?_
          rw [upd_ne hz]; exact e04 c o hc
      · funext c
        unfold upd
        by_cases hz : c = l
        · rw [if_pos hz, if_pos hz]
        · rw [if_neg hz, if_neg hz]
          show H6 c = if c = l then some (HO.lst xs) else H6 c
          rw [if_neg hz]
    obtain ⟨H7, e7, e8⟩ := e7
    rw [e8]
    exact k H7 e7⟩
/-- a dict of pairs -/
theorem ev_inDc {p dk : Addr} {kvs : List (List Key × V)} {key : List Key} (ha : Ev ta σ H (.ref p)) (hp : H p = some (.tup (key.map kV))) (hb : Ev tb σ H (.ref dk)) (hd : H dk = some (.dT kvs)) : Ev (tOp rInDc ta tb) σ H (.bl (valV kvs key).isSome) := fun H1 e Q q =>
  ha H1 e _ fun H2 e2 => hb H2 (e.trans e2) _ fun H3 e3 => ⟨dk, _, rfl, DGet.t (((e.trans e2).trans e3) dk _ hd) (((e.trans e2).trans e3) p _ hp), q H3 (e2.trans e3)⟩
theorem ev_getDc {p dk : Addr} {kvs : List (List Key × V)} {key : List Key} (hb : Ev tb σ H (.ref dk)) (hd : H dk = some (.dT kvs)) (ha : Ev ta σ H (.ref p)) (hp : H p = some (.tup (key.map kV))) (hv : valV kvs key = some v) : Ev (tDGet tb ta) σ H v := fun H1 e Q q =>
  hb H1 e _ fun H2 e2 => ha H2 (e.trans e2) _ fun H3 e3 => ⟨dk, v, rfl, by rw [← hv]; exact DGet.t (((e.trans e2).trans e3) dk _ hd) (((e.trans e2).trans e3) p _ hp), q H3 (e2.trans e3)⟩
theorem evl_dnew {i : Nat} (k : ∀ p H1, H p = none → Ex H H1 → H1 p = some (.dT []) → tz D (σ.set i (some (.ref p))) H1) : tSeq (tAsg tDNewT (gName i)) tz D σ H := fun p hp => k p _ hp (Ex.new hp) upd_same
/-- d[key] = a new pair -/
theorem s_putDc {dk p : Addr} {kvs : List (List Key × V)} {key : List Key} {xs : List V} (hd : H dk = some (.dT kvs)) (hv : EvU tv σ H xs) (hb : ∀ H1, Ev tb σ H1 (.ref dk)) (ha : ∀ H1, Ev ta σ H1 (.ref p)) (hp : H p = some (.tup (key.map kV))) (hl : kvs.length < 100000)
    (k : ∀ q H1, H q = none → Ex H H1 → H1 q = some (.tup xs) → D.nx σ (upd H1 dk (.dT (putK kvs key (.ref q))))) : tAsg tv (gSub tb ta rSetD) D σ H :=
  hv H (Ex.refl H) _ fun q H1 nq e1 h1 => hb _ _ (Ex.refl _) _ fun H2 e2 => ha _ _ (Ex.refl _) _ fun H3 e3 => by
    have e := (e1.trans e2).trans e3
    exact ⟨dk, _, rfl, DPut.t (e dk _ hd) (e p _ hp) (sz_lt hl), k q H3 nq e ((e2.trans e3) q _ h1)⟩
/-- in a written list of ints -/
theorem ev_inLI {n : Int} {ns : List Int} (ha : Ev ta σ H (.int n)) (hb : EvL tb σ H (ns.map V.int)) : Ev (tOp (rIn K false) ta tb) σ H (.bl (inV (.int n) (ns.map V.int))) :=
  ev_opL ha hb fun p H1 hp e => rv_isL (sq_of hp) rfl (by rw [List.all_eq_true]; intro x hx; obtain ⟨y, _, rfl⟩ := List.mem_map.mp hx; rfl)
/-- isinstance(x, (list, tuple)) of a list or a tuple -/
theorem tyx_L {a : Addr} {xs : List V} (h : SqL K H a xs) : TyX K H (.ref a) (.type "list") := by
  rcases h with (h | ⟨o, h⟩) | ⟨o, us, n, hk, hc, hz, hd, r⟩
  · exact .base (.lst h)
  · exact .base (.frz h)
  · exact .kList hk hc
theorem tyx_T {a : Addr} {xs : List V} (h : SqT K H a xs) : TyX K H (.ref a) (.type "tuple") := by
  rcases h with (h | ⟨o, h⟩) | ⟨o, us, n, hk, hc, r⟩
  · exact .base (.tup h)
  · exact .fTuple h
  · exact .kTuple hk hc
end
def relS (scope sc : Scope) : Scope := relabel scope { (default : Env) with scope := sc }
theorem blkOk_in {X : Cx} {s : Shared} {H : Hp} {scope0 scope sc : Scope} {cl : List (Str × Addr)} {C : Addr} {fp : List Addr} {N : List Str} {own : List (Str × Nat)} (hN : X.N = N) (hs : X.env.scope = sc) (h : blkC N (relS scope0 sc) scope own = true) : BlkOk (X.blk s H scope0 (compEnvC scope0 cl C X.env) fp).N (X.blk s H scope0 (compEnvC scope0 cl C X.env) fp).env.scope scope own := by
  subst hN hs
  exact blkOk_by h
/-! ### squares as data -/
open Mm
def rowD (t : Bool) (r : List Int) : PyData := sq2 t (pints r)
def sqrD (o i : Bool) (rows : List (List Int)) : PyData := sq2 o (rows.map (rowD i))
theorem rowD_pl (t : Bool) (r : List Int) : plD (rowD t r) = true := by cases t <;> exact plD_ints r
theorem sqrD_pl (o i : Bool) (rows : List (List Int)) : plD (sqrD o i rows) = true := by
  have h : plDA (rows.map (rowD i)) = true := plDA_of fun d hd => by obtain ⟨r, _, rfl⟩ := List.mem_map.mp hd; exact rowD_pl i r
  cases o <;> exact h
theorem sqrD_dp (o i : Bool) (rows : List (List Int)) : (sqrD o i rows).depth ≤ 64 := by
  have h1 : ∀ r, (rowD i r).depth = 1 := fun r => by cases i <;> exact depth_ints r
  have h : PyData.depthAll (rows.map (rowD i)) ≤ 1 := depthAll_le fun d hd => by obtain ⟨r, _, rfl⟩ := List.mem_map.mp hd; rw [h1]; exact Nat.le_refl _
  cases o
  · show PyData.depthAll _ + 1 ≤ 64; omega
  · show PyData.depthAll _ + 1 ≤ 64; omega
theorem pints_inj : ∀ {a b : List Int}, pints a = pints b → a = b
  | [], [], _ => rfl
  | [], _ :: _, h => by cases h
  | _ :: _, [], h => by cases h
  | x :: a, y :: b, h => by
    have h2 : PyData.int x = PyData.int y ∧ pints a = pints b := by simpa [pints] using h
    have h3 := h2.1
    injection h3 with h3
    rw [h3, pints_inj h2.2]
theorem rowD_inj {t : Bool} {a b : List Int} (h : rowD t a = rowD t b) : a = b := by
  cases t
  · exact pints_inj (by injection h)
  · exact pints_inj (by injection h)
section
variable {K : PySem.W.Frag} {σ : L2.St} {H : Hp} {ta tb tc te tv : TE} {x y z v : V} {D : Ends} {tz : TS}
theorem pints_get {r : List Int} {c : Nat} (h : c < r.length) : (pints r)[c]? = some (.int (r.getD c 0)) := by
  unfold pints
  rw [List.getElem?_map, List.getElem?_eq_getElem h, List.getD_eq_getElem?_getD, List.getElem?_eq_getElem h]; rfl
theorem rows_get {i : Bool} {rows : List (List Int)} {r : Nat} (h : r < rows.length) : (rows.map (rowD i))[r]? = some (rowD i (rows.getD r [])) := by
  rw [List.getElem?_map, List.getElem?_eq_getElem h, List.getD_eq_getElem?_getD, List.getElem?_eq_getElem h]; rfl
/-- t[r][c] of a square told by tuples -/
theorem ev_celT {n r c : Nat} {rows : List (List Int)} (L : Lat n rows) (hr : r < n) (hc : c < n) (h : EvD K ta σ H (sqrD true true rows)) (h1 : Ev tb σ H (.int (r : Int))) (h2 : Ev tc σ H (.int (c : Int))) : Ev (tOp (rIxT K) (tOp (rIxT K) ta tb) tc) σ H (.int (cel rows r c)) :=
  ev_ofI (evd_ixT (evd_ixT h h1 (rows_get (i := true) (by have := L.len; omega))) h2 (pints_get (by have := L.rlen hr; omega)))
theorem ev_celL {n r c : Nat} {rows : List (List Int)} (L : Lat n rows) (hr : r < n) (hc : c < n) (h : EvD K ta σ H (sqrD false false rows)) (h1 : Ev tb σ H (.int (r : Int))) (h2 : Ev tc σ H (.int (c : Int))) : Ev (tOp (rIxL K) (tOp (rIxL K) ta tb) tc) σ H (.int (cel rows r c)) :=
  ev_ofI (evd_ixL (evd_ixL h h1 (rows_get (i := false) (by have := L.len; omega))) h2 (pints_get (by have := L.rlen hr; omega)))
end
end My
set_option maxHeartbeats 2000000
/-! what the squares' defs are made of -/
namespace My
open PySem PySem.Spec PyProof.Rows L2 Evl Mm
theorem hu64 {A : Around} {k : Nat} (hr : Room k A) : A.units + 64 < cLine := Nat.lt_of_le_of_lt (by omega) hr.un
def srtI (ns : List Int) : List Int := ns.mergeSort fun a b => decide (a ≤ b)
theorem srtI_eq {ms ns : List Int} (h1 : ms.Perm ns) (h2 : ms.Pairwise (· ≤ ·)) : ms = srtI ns := by
  refine List.Perm.eq_of_pairwise (le := (· ≤ ·)) (fun a b _ _ h h' => Int.le_antisymm h h') h2 ?_ (h1.trans (List.mergeSort_perm _ _).symm)
  refine (List.pairwise_mergeSort (le := fun a b : Int => decide (a ≤ b)) (fun a b c h h' => ?_) (fun a b => ?_) ns).imp fun h => of_decide_eq_true h
  · exact decide_eq_true (Int.le_trans (of_decide_eq_true h) (of_decide_eq_true h'))
  · rcases Int.le_total a b with h | h
    · rw [decide_eq_true h]; rfl
    · rw [decide_eq_true h, Bool.or_true]
theorem srtI_iota {ns : List Int} {n : Nat} : srtI ns = iota n ↔ ns.Perm (iota n) := by
  have hp : (srtI ns).Perm ns := List.mergeSort_perm _ _
  constructor
  · intro e; rw [e] at hp; exact hp.symm
  · intro e
    exact (srtI_eq (e.symm) (iota_sorted n)).symm
theorem srtI_len (ns : List Int) : (srtI ns).length = ns.length := (List.mergeSort_perm _ _).length_eq
theorem rgV_iota (n : Nat) : rgV 0 (n : Int) = (iota n).map V.int := by
  unfold rgV iota
  rw [List.map_map, show ((n : Int) - 0).toNat = n by omega]
  exact List.map_congr_left fun i _ => congrArg V.int (Int.zero_add _)
section
variable {K : PySem.W.Frag} {σ : L2.St} {H B : Hp} {t u ta tb tc te tl : TE} {x y z v : V} {D : Ends} {tz tu : TS}
theorem ev_allG {P : Addr} {Pz : V → Prop} {f : V → Bool} {a : Addr} {xs : List V} (h : Ev te σ H (.ref a)) (hx : SqL K H a xs ∨ SqT K H a xs) (hp : ∀ x ∈ xs, Pz x) (hT : H P = some (tabO P)) : Ev (tAllG K P Pz f te) σ H (.bl (xs.all f)) := fun H1 e Q q =>
  h H1 e _ fun H2 e2 => ⟨a, xs, rfl, hx.imp (ex_l (e.trans e2)) (ex_t (e.trans e2)), hp, (e.trans e2) P _ hT, q H2 e2⟩
theorem ints_plain {ns : List Int} : ∀ x ∈ ns.map V.int, Plain x := fun x hx => by obtain ⟨n, _, rfl⟩ := List.mem_map.mp hx; exact .inl ⟨n, rfl⟩
theorem ints_all (ns : List Int) : (ns.map V.int).all isIntV = true := List.all_eq_true.mpr fun x hx => by obtain ⟨n, _, rfl⟩ := List.mem_map.mp hx; rfl
theorem evd_sorted {a : Addr} {ns : List Int} (ha : Ev te σ H (.ref a)) (h : SqL K H a (ns.map V.int) ∨ SqT K H a (ns.map V.int)) (h64 : ns.length < 64) : EvD K (tCB (rSortedA K) (tCons te tNil)) σ H (.list (pints (srtI ns))) := fun H1 e Q q =>
  ha H1 e _ fun H2 e2 => ⟨a, ns, rfl, h.imp (ex_l (e.trans e2)) (ex_t (e.trans e2)), h64, fun ms p h1 h2 hp => by
    rw [srtI_eq h1 h2]
    exact q (.ref p) _ (e2.trans (Ex.new hp)) (.lst (sq_of (by rw [nw_new (fresh_back e2 hp)]; exact upd_same)) (dpAll_ints _))⟩
theorem el_listRg {n : Nat} (h : Ev te σ H (.int (n : Int))) (hn : n ≤ 100000) : EvL (tLstRg (tRg1 te)) σ H ((iota n).map V.int) := fun H1 e Q q =>
  h H1 e _ fun H2 e2 => ⟨(n : Int), rfl, RgOk.of_le (by omega) (by omega) (by omega) (by omega), fun p hp => by
    rw [rgV_iota]
    exact q p _ (fresh_back e2 hp) (e2.trans (Ex.new hp)) upd_same⟩
theorem kit_seqL : PySem.W.kitAny K (.type "list") [.type "list", .type "tuple"] = some true := kitAny_cons (b := true) (kit_ty (by decide +kernel)) (fun z => nomatch z) (fun _ => rfl)
theorem kit_seqT : PySem.W.kitAny K (.type "tuple") [.type "list", .type "tuple"] = some true := kitAny_cons (b := false) (kit_ty (by decide +kernel)) (fun _ => kitAny_cons (b := true) (kit_ty (by decide +kernel)) (fun z => nomatch z) (fun _ => rfl)) (fun z => nomatch z)
theorem ev_isiSeq {a : Addr} {xs : List V} (h : Ev ta σ H (.ref a)) (hx : SqL K H a xs ∨ SqT K H a xs) : Ev (tCB (rIsiT K) (tCons ta (tCons (tTup (tCons (tC (.ty "list")) (tCons (tC (.ty "tuple")) tNil))) tNil))) σ H (.bl true) := fun H1 e Q q =>
  h H1 e _ fun H2 e2 => ⟨sz_of (by show 2 ≤ 100000; decide), fun p hp => by
    have e3 : Ex H (upd H2 p (.tup [.ty "list", .ty "tuple"])) := (e.trans e2).trans (Ex.new hp)
    rcases hx with hx | hx
    · exact ⟨.ref a, p, _, .type "list", [.type "list", .type "tuple"], true, rfl, upd_same, .cons (.ty _) (.cons (.ty _) .nil), tyx_L (ex_l e3 hx), kit_seqL, q _ (e2.trans (Ex.new hp))⟩
    · exact ⟨.ref a, p, _, .type "tuple", [.type "list", .type "tuple"], true, rfl, upd_same, .cons (.ty _) (.cons (.ty _) .nil), tyx_T (ex_t e3 hx), kit_seqT, q _ (e2.trans (Ex.new hp))⟩⟩
/-- isinstance(x, T), x a tuple -/
theorem ev_isiT1 {a : Addr} {xs : List V} {T : String} {b : Bool} (h : Ev ta σ H (.ref a)) (hx : SqT K H a xs) (hk : kitB "tuple" T = some b) : Ev (tCB (rIsi K) (tCons ta (tCons (tC (.ty T)) tNil))) σ H (.bl b) := fun H1 e Q q =>
  h H1 e _ fun H2 e2 => ⟨.ref a, .ty T, .type "tuple", .type T, b, rfl, .ty T, tyx_T (ex_t (e.trans e2) hx), kit_ty hk, q H2 e2⟩
theorem ev_isiL1 {a : Addr} {xs : List V} {T : String} {b : Bool} (h : Ev ta σ H (.ref a)) (hx : SqL K H a xs) (hk : kitB "list" T = some b) : Ev (tCB (rIsi K) (tCons ta (tCons (tC (.ty T)) tNil))) σ H (.bl b) := fun H1 e Q q =>
  h H1 e _ fun H2 e2 => ⟨.ref a, .ty T, .type "list", .type T, b, rfl, .ty T, tyx_L (ex_l (e.trans e2) hx), kit_ty hk, q H2 e2⟩
theorem ev_isiB1 {b0 b : Bool} {T : String} (h : Ev ta σ H (.bl b0)) (hk : kitB "bool" T = some b) : Ev (tCB (rIsi K) (tCons ta (tCons (tC (.ty T)) tNil))) σ H (.bl b) := fun H1 e Q q =>
  h H1 e _ fun H2 e2 => ⟨.bl b0, .ty T, .type "bool", .type T, b, rfl, .ty T, .base (.bl b0), kit_ty hk, q H2 e2⟩
/-- a walk over a list or a tuple -/
def seqW (K : PySem.W.Frag) (t : Bool) (a : Addr) (vs : List V) (H : Hp) : Prop := if t then SqT K H a vs else SqL K H a vs
theorem seqW_or {t : Bool} {a : Addr} {vs : List V} (h : seqW K t a vs H) : SqL K H a vs ∨ SqT K H a vs := by cases t; exact .inl h; exact .inr h
theorem seqW_mono {t : Bool} {a : Addr} {vs : List V} {H' : Hp} (e : Ex H H') (h : seqW K t a vs H) : seqW K t a vs H' := by cases t; exact ex_l e h; exact ex_t e h
theorem gets_a {t : Bool} {a : Addr} {vs : List V} (h : Ev te σ H (.ref a)) (hx : seqW K t a vs H) : ∃ (J : It) (G : Hp → Prop) (Y : Nat → Hp → V → Hp → Prop), (∀ H1, Ex H H1 → Gets (iE2 (iList K te) (iTup K te)) σ H1 J) ∧ Walk J vs.length G Y ∧ (∀ H', Ex H H' → G H') ∧ ∀ i H1 x H2, Y i H1 x H2 → H2 = H1 ∧ vs[i]? = some x := by
  cases t with
  | true => exact ⟨_, _, _, fun H1 e R q => .inr (gets_tup (h.mono e) (ex_t e hx) R q), walk_tup (xs := vs), fun H' e => ex_t e hx, fun i H1 x H2 y => y⟩
  | false => exact ⟨_, _, _, fun H1 e R q => .inl (gets_list (h.mono e) (ex_l e hx) R q), walk_list (xs := vs), fun H' e => ex_l e hx, fun i H1 x H2 y => y⟩
/-- a list of values made by a comprehension -/
theorem el_lcG {wi : TI} {J : It} {n j : Nat} {G : Hp → Prop} {Y : Nat → Hp → V → Hp → Prop} {vs : List Nat} (val : Nat → V) (h : ∀ H1, Ex H H1 → Gets wi σ H1 J) (w : Walk J n G Y) (hG : ∀ H', Ex H H' → G H') (hn : n ≤ 40000) (hy : ∀ i H1 x H2, Y i H1 x H2 → H2 = H1) (hw : ∀ x, wipe ((wipe σ vs).set j (some x)) vs = wipe σ vs)
    (he : ∀ i x H1, i < n → Ex H H1 → Y i H1 x H1 → Ev te ((wipe σ vs).set j (some x)) H1 (val i)) : EvL (tLc wi (gName j) tYes te vs) σ H ((List.range n).map val) := fun H0 e Q q =>
  lcW (h H0 e) w (fun D i H' => Cw H0 (fun _ => true) val D i H') (fun D H1 e1 hD => ⟨fresh_back e1 hD, e1.mut (fresh_back e1 hD), upd_same⟩) (fun D i H' _ p => hG _ (e.trans p.2.1))
    (fun D i x H' H2 hi p y => by
      have := hy _ _ _ _ y
      subst this
      refine ⟨hw x, et_yes H2 (Ex.refl _) _ fun H3 e3 => ?_⟩
      show te _ H3 _
      have p3 : H3 D = some (.lst (given i (fun _ => true) val)) := e3 D _ p.2.2
      have hx := he i x H2 hi (e.trans p.2.1) y
      refine hx H3 e3 _ fun H4 e4 => ⟨_, e4 D _ p3, sz_lt (by have := given_len i (fun _ => true) val; omega), p.1, ((p.2.1.trans e3).trans e4).mut p.1, ?_⟩
      rw [given_yes (rfl : (fun _ => true) i = true)]
      exact upd_same)
    (fun D H' p => q D H' p.1 p.2.1 (by
      have h3 := p.2.2
      unfold given at h3
      rw [List.filter_eq_self.mpr (fun _ _ => rfl)] at h3
      exact h3))
/-- f([..], y) -/
theorem ev_callL1 {sp : Sp} {E : XK} {xs : List V} (ha : EvL ta σ H xs) (hb : ∀ H1, Ex H H1 → Ev tb σ H1 y) (hs : ∀ b H1, Ex H H1 → H1 b = some (.lst xs) → ∀ Q : VK, RetV z H1 Q → ∀ E, sp [.ref b, y] H1 Q E) : Ev (tCall sp [] E (tCons ta (tCons tb tNil))) σ H z := fun H1 e Q q =>
  ha H1 e _ fun b H2 nb e2 h2 => hb H2 (e.trans e2) H2 (Ex.refl H2) _ fun H3 e3 => hs b H3 ((e.trans e2).trans e3) (e3 b _ h2) Q (fun H4 e4 => q H4 ((e2.trans e3).trans e4)) E
theorem s_retB {d : PyData} (h : EvD K te σ B d) (eB : Ex B H) (k : ∀ v H2, Ex H H2 → Dp K (Nw B H H2) v d → D.rt v H2) : tRet te D σ H := h H eB _ k
/-- return f(..): what f asks -/
theorem s_retA {sp : Sp} {E : L2.St → XK} {ts : TA} {vs : List V} (h : EvA ts σ H vs) (k : ∀ H1, Ex H H1 → sp vs H1 D.rt (E σ)) : tRet (tCallS sp E ts) D σ H := h H (Ex.refl H) _ k
theorem evd_ceD {sp : Sp} {E : L2.St → XK} {ts : TA} {ds : List PyData} {d : PyData} (h : EvDA K ts σ H ds) (hs : ∀ vs H1 B, Ex H B → Ex B H1 → DpAll K B vs ds → ∀ Q : VK, RetD K B d H1 Q → sp vs H1 Q (E σ)) : EvD K (tCallS sp E ts) σ H d := fun H1 e Q q =>
  h H1 e _ fun vs H2 e2 hvs => hs vs H2 (Nw H H1 H2) (nw_base e) (nw_ex e e2) hvs Q (fun v H3 e3 hv => q v H3 (e2.trans e3) (dp_mono (nw_trans e e2 e3) _ _ hv))
end
/-- the squares that are taken -/
def okSq (rows : List (List Int)) : Bool := decide (1 ≤ rows.length) && decide (rows.length ≤ 12) && latB rows.length rows
theorem okSq_lat {n : Nat} {rows : List (List Int)} (L : Lat n rows) (h1 : 1 ≤ n) (h2 : n ≤ 12) : okSq rows = true := by
  unfold okSq latB
  have := L.len
  subst this
  simp only [Bool.and_eq_true, decide_eq_true_eq, List.all_eq_true, List.mem_range, List.isPerm_iff]
  exact ⟨⟨h1, h2⟩, ⟨trivial, L.row⟩, L.col⟩
end My
set_option maxHeartbeats 2000000
/-! the pass over two squares: a dict of the pairs seen -/
namespace My
open PySem PySem.Spec PyProof.Rows L2 Evl Mm
theorem hu1 {A : Around} {k : Nat} (hr : Room k A) : A.units + 1 < cLine := Nat.lt_of_le_of_lt (by omega) hr.un
theorem rep_ex (n : Nat) (one other : List (List Int)) : ∃ m, Rep n one other m := by
  have key : ∀ k, k ≤ n * n → (∃ s t, s < t ∧ t < k ∧ prAt n one other s = prAt n one other t ∧ NoRep n one other t) ∨ NoRep n one other k := by
    intro k
    induction k with
    | zero => intro _; right; intro s u _ h; omega
    | succ k ih =>
      intro hk
      rcases ih (by omega) with ⟨s, t, h1, h2, h3, h4⟩ | h
      · exact .inl ⟨s, t, h1, by omega, h3, h4⟩
      · by_cases hx : ∃ s, s < k ∧ prAt n one other s = prAt n one other k
        · obtain ⟨s, h1, h2⟩ := hx
          exact .inl ⟨s, k, h1, by omega, h2, h⟩
        · right
          intro s u h1 h2 h3
          by_cases hu : u = k
          · subst hu; exact hx ⟨s, h1, h3⟩
          · exact h s u h1 (by omega) h3
  rcases key (n * n) (Nat.le_refl _) with ⟨s, t, h⟩ | h
  · exact ⟨some (s, t), h⟩
  · exact ⟨none, h⟩
def repL (n : Nat) (st : Nat × Nat) : List Int := [((st.1 / n : Nat) : Int), ((st.1 % n : Nat) : Int), ((st.2 / n : Nat) : Int), ((st.2 % n : Nat) : Int)]
def repD (n : Nat) : Option (Nat × Nat) → PyData
  | none => .none
  | some st => .tuple (pints (repL n st))
theorem repD_pl (n : Nat) : ∀ m, plD (repD n m) = true
  | none => rfl
  | some _ => plD_ints _
theorem repD_dp (n : Nat) : ∀ m, (repD n m).depth ≤ 64
  | none => Nat.zero_le _
  | some _ => by show (PyData.tuple (pints _)).depth ≤ 64; rw [depth_ints]; decide
def keyAt (n : Nat) (one other : List (List Int)) (t : Nat) : List Key := [.inl (prAt n one other t).1, .inl (prAt n one other t).2]
theorem keyAt_inj {n : Nat} {one other : List (List Int)} {s t : Nat} (h : keyAt n one other s = keyAt n one other t) : prAt n one other s = prAt n one other t := by
  unfold keyAt at h
  have h1 := List.cons.inj h
  have h2 := List.cons.inj h1.2
  exact Prod.ext (Sum.inl.inj h1.1) (Sum.inl.inj h2.1)
theorem keyAt_of {n : Nat} {one other : List (List Int)} {s t : Nat} (h : prAt n one other s = prAt n one other t) : keyAt n one other s = keyAt n one other t := by unfold keyAt; rw [h]
theorem at_div {n r c : Nat} (hc : c < n) : (r * n + c) / n = r := by rw [Nat.add_comm, Nat.add_mul_div_right _ _ (by omega), Nat.div_eq_of_lt hc, Nat.zero_add]
theorem at_mod {n r c : Nat} (hc : c < n) : (r * n + c) % n = c := by rw [Nat.add_comm, Nat.add_mul_mod_self_right, Nat.mod_eq_of_lt hc]
theorem keyAt_rc {n r c : Nat} {one other : List (List Int)} (hc : c < n) : keyAt n one other (r * n + c) = [.inl (cel one r c), .inl (cel other r c)] := by
  unfold keyAt prAt; rw [at_div hc, at_mod hc]
/-- the dict after t cells -/
structure DI (n : Nat) (one other : List (List Int)) (t : Nat) (dk : Addr) (H2 H' : Hp) (kvs : List (List Key × V)) : Prop where
  old : H2 dk = none
  ex : Ex H2 H'
  is : H' dk = some (.dT kvs)
  len : kvs.length ≤ t
  nor : NoRep n one other t
  fwd : ∀ s, s < t → ∃ q, valV kvs (keyAt n one other s) = some (.ref q) ∧ H' q = some (.tup [.int ((s / n : Nat) : Int), .int ((s % n : Nat) : Int)])
  back : ∀ k v, valV kvs k = some v → ∃ s, s < t ∧ k = keyAt n one other s
theorem di_zero {n : Nat} {one other : List (List Int)} {dk : Addr} {H2 H' : Hp} (old : H2 dk = none) (ex : Ex H2 H') (is : H' dk = some (.dT [])) : DI n one other 0 dk H2 H' [] :=
  ⟨old, ex, is, Nat.le_refl _, fun s u _ h => absurd h (by omega), fun s h => absurd h (by omega), fun k v h => by rw [valV_nil] at h; cases h⟩
theorem di_up {n t : Nat} {one other : List (List Int)} {dk : Addr} {H2 H' H3 : Hp} {kvs : List (List Key × V)} (I : DI n one other t dk H2 H' kvs) (e : Ex H' H3) : DI n one other t dk H2 H3 kvs :=
  ⟨I.old, I.ex.trans e, e dk _ I.is, I.len, I.nor, fun s h => by obtain ⟨q, h1, h2⟩ := I.fwd s h; exact ⟨q, h1, e q _ h2⟩, I.back⟩
theorem di_put {n t : Nat} {one other : List (List Int)} {dk q : Addr} {H2 H' H5 : Hp} {kvs : List (List Key × V)} (I : DI n one other t dk H2 H' kvs) (e : Ex H' H5) (nq : H' q = none) (hq : H5 q = some (.tup [.int ((t / n : Nat) : Int), .int ((t % n : Nat) : Int)]))
    (hv : valV kvs (keyAt n one other t) = none) : DI n one other (t + 1) dk H2 (upd H5 dk (.dT (putK kvs (keyAt n one other t) (.ref q)))) (putK kvs (keyAt n one other t) (.ref q)) := by
  refine ⟨I.old, (I.ex.trans e).mut I.old, upd_same, ?_, ?_, ?_, ?_⟩
  · unfold putK
    rw [valV_any, hv, Option.isSome_none, if_neg (by decide), List.length_append]
    exact Nat.succ_le_succ I.len
  · intro s u h1 h2 h3
    by_cases hu : u = t
    · subst hu
      obtain ⟨q', h4, _⟩ := I.fwd s h1
      rw [keyAt_of h3, hv] at h4; cases h4
    · exact I.nor s u h1 (by omega) h3
  · intro s hs
    by_cases h : s = t
    · subst h
      refine ⟨q, by rw [valV_put, if_pos rfl], ?_⟩
      rw [upd_ne (fun z => by rw [z, I.is] at nq; cases nq)]
      exact hq
    · obtain ⟨q', h4, h5⟩ := I.fwd s (by omega)
      refine ⟨q', ?_, ?_⟩
      · rw [valV_put, if_neg (fun z => by rw [z, hv] at h4; cases h4)]; exact h4
      · rw [upd_ne (fun z => by rw [z, I.is] at h5; cases h5)]
        exact e q' _ h5
  · intro k v h
    rw [valV_put] at h
    by_cases hk : k = keyAt n one other t
    · exact ⟨t, by omega, hk⟩
    · rw [if_neg hk] at h
      obtain ⟨s, h1, h2⟩ := I.back k v h
      exact ⟨s, by omega, h2⟩
/-- one cell -/
theorem rep_turn {K : PySem.W.Frag} {σ : L2.St} {H' H2 : Hp} {D : Ends} {tret : TE} {n r c t i1 i2 id ir ic ip : Nat} {one other : List (List Int)} {dk : Addr} {v1 v2 : V} {kvs : List (List Key × V)} (L1 : Lat n one) (L2 : Lat n other) (h12 : n ≤ 12) (hr : r < n) (hc : c < n) (ht : t = r * n + c)
    (d1 : Dp K H2 v1 (sqrD true true one)) (d2 : Dp K H2 v2 (sqrD true true other)) (e1 : σ[i1]? = some (some v1)) (e2 : σ[i2]? = some (some v2)) (er : σ[ir]? = some (some (.int (r : Int)))) (ec : σ[ic]? = some (some (.int (c : Int))))
    (sp : ∀ z, (σ.set ip (some z))[ip]? = some (some z)) (sd : ∀ z, (σ.set ip (some z))[id]? = some (some (.ref dk))) (sr : ∀ z, (σ.set ip (some z))[ir]? = some (some (.int (r : Int)))) (sc : ∀ z, (σ.set ip (some z))[ic]? = some (some (.int (c : Int))))
    (I : DI n one other t dk H2 H' kvs)
    (ret : ∀ p q s H1, Ex H' H1 → H1 p = some (.tup ((keyAt n one other t).map kV)) → valV kvs (keyAt n one other t) = some (.ref q) → H1 q = some (.tup [.int ((s / n : Nat) : Int), .int ((s % n : Nat) : Int)]) → EvU tret (σ.set ip (some (.ref p))) H1 [.int ((s / n : Nat) : Int), .int ((s % n : Nat) : Int), .int (r : Int), .int (c : Int)])
    (rt : ∀ st, Rep n one other (some st) → ∀ p H1, H2 p = none → Ex H2 H1 → H1 p = some (.tup ((repL n st).map V.int)) → D.rt (.ref p) H1)
    (nx : ∀ p H1 kvs, DI n one other (t + 1) dk H2 H1 kvs → D.nx (σ.set ip (some (.ref p))) H1) :
    tSeq (tAsg (tTup (tCons (tOp (rIxT K) (tOp (rIxT K) (tVar i1) (tVar ir)) (tVar ic)) (tCons (tOp (rIxT K) (tOp (rIxT K) (tVar i2) (tVar ir)) (tVar ic)) tNil))) (gName ip))
      (tSeq (tIfS (tTest (tOp rInDc (tVar ip) (tVar id))) (tRet tret) tNext) (tAsg (tTup (tCons (tVar ir) (tCons (tVar ic) tNil))) (gSub (tVar id) (tVar ip) rSetD))) D σ H' := by
  have hk := keyAt_rc (one := one) (other := other) (r := r) hc
  rw [← ht] at hk
  have hdv : t / n = r := by rw [ht]; exact at_div hc
  have hmd : t % n = c := by rw [ht]; exact at_mod hc
  have hlt : t < n * n := by
    rw [ht]
    calc r * n + c < r * n + n := by omega
      _ = (r + 1) * n := by rw [Nat.succ_mul]
      _ ≤ n * n := Nat.mul_le_mul_right _ (by omega)
  have hnn : n * n ≤ 144 := Nat.mul_le_mul h12 h12
  refine q_asgU (eu_tup (ea_cons (ev_celT L1 hr hc (evd_of (ev_var e1) (dp_mono I.ex _ _ d1)) (ev_var er) (ev_var ec)) (ea_cons (ev_celT L2 hr hc (evd_of (ev_var e2) (dp_mono I.ex _ _ d2)) (ev_var er) (ev_var ec)) ea_nil)) (by show 2 ≤ 100000; decide)) fun p H3 np e3 hp => ?_
  have hp3 : H3 p = some (.tup ((keyAt n one other t).map kV)) := by rw [hk]; exact hp
  refine q_when (et_test (ev_inDc (ev_var (sp _)) hp3 (ev_var (sd _)) (e3 dk _ I.is))) (fun hb H4 e4 => ?_) (fun hb H4 e4 => ?_)
  · obtain ⟨v, hv⟩ := Option.isSome_iff_exists.mp hb
    obtain ⟨s, hs, hk2⟩ := I.back _ v hv
    obtain ⟨q, hq1, hq2⟩ := I.fwd s hs
    rw [← hk2] at hq1
    refine s_retU (ret p q s H4 (e3.trans e4) (e4 p _ hp3) hq1 ((e3.trans e4) q _ hq2)) fun p2 H5 np2 e5 hp2 => ?_
    have e25 := I.ex.trans (e3.trans e4)
    refine rt (s, t) ⟨hs, hlt, keyAt_inj hk2.symm, I.nor⟩ p2 H5 (fresh_back e25 np2) (e25.trans e5) ?_
    unfold repL
    show H5 p2 = some (.tup [_, _, .int ((t / n : Nat) : Int), .int ((t % n : Nat) : Int)])
    rw [hdv, hmd]; exact hp2
  · have hv : valV kvs (keyAt n one other t) = none := by
      cases q : valV kvs (keyAt n one other t) with
      | none => rfl
      | some x => rw [q] at hb; cases hb
    refine s_putDc (e4 dk _ (e3 dk _ I.is)) (eu_tup (ea_cons (ev_var (sr _)) (ea_cons (ev_var (sc _)) ea_nil)) (by show 2 ≤ 100000; decide)) (fun H1 => ev_var (sd _)) (fun H1 => ev_var (sp _)) (e4 p _ hp3) (by have := I.len; omega) fun q H5 nq e5 hq => nx p _ (putK kvs (keyAt n one other t) (.ref q)) ?_
    refine di_put I ((e3.trans e4).trans e5) (fresh_back (e3.trans e4) nq) ?_ hv
    rw [hdv, hmd]; exact hq
section
variable {K : PySem.W.Frag} {σ : L2.St} {H : Hp} {ta tb te : TE} {x y v : V}
theorem eu_star2 {q : Addr} {a b c d : V} (h : Ev ta σ H (.ref q)) (hq : H q = some (.tup [a, b])) (hc : Ev tb σ H c) (hd : Ev te σ H d) : EvU (tTup (StX.tStar K ta (tCons tb (tCons te tNil)))) σ H [a, b, c, d] :=
  eu_tup (vs := [a, b, c, d]) (fun H1 e Q k => h H1 e _ fun H2 e2 => ⟨q, [a, b], rfl, .inl (st_of ((e.trans e2) q _ hq)), hc H2 (e.trans e2) _ fun H3 e3 => hd H3 ((e.trans e2).trans e3) _ fun H4 e4 => k H4 ((e2.trans e3).trans e4)⟩) (by show 4 ≤ 100000; decide)
theorem eu_cat2 {q : Addr} {a b c d : V} (h : Ev ta σ H (.ref q)) (hq : H q = some (.tup [a, b])) (hc : Ev tb σ H c) (hd : Ev te σ H d) : EvU (tOp (rCatT K) ta (tTup (tCons tb (tCons te tNil)))) σ H [a, b, c, d] := fun H1 e Q k =>
  h H1 e _ fun H2 e2 => eu_tup (vs := [c, d]) (ea_cons hc (ea_cons hd ea_nil)) (by show 2 ≤ 100000; decide) H2 (e.trans e2) _ fun p H3 np e3 hp =>
    ⟨q, p, [a, b], [c, d], rfl, rfl, st_of (((e.trans e2).trans e3) q _ hq), st_of hp, by simp, sz_of (by show 4 ≤ 100000; decide), (fun z => by cases z), fun _ p2 np2 => k p2 _ (fresh_back (e2.trans e3) np2) ((e2.trans e3).trans (Ex.new np2)) upd_same⟩
/-- data returned, wherever it stands -/
def RetP (K : PySem.W.Frag) (d : PyData) (H : Hp) (Q : VK) : Prop := ∀ v H2, Ex H H2 → Dp K H2 v d → Q v H2
theorem retP_none {H0 : Hp} {Q : VK} {n : Nat} (h : RetP K (repD n none) H Q) (e : Ex H H0) : Q .non H0 := h _ _ e .non
theorem isN_of {d : PyData} {b : Bool} (hd : Dp K H v d) (hb : b = true ↔ d = .none) : decide (v = .non) = b := by
  cases hd with
  | non => cases b with
    | true => rfl
    | false => exact absurd (hb.mpr rfl) (by decide)
  | _ =>
    cases b with
    | true => exact absurd (hb.mp rfl) (by simp)
    | false => exact decide_eq_false (by simp)
theorem repD_none (n : Nat) (m : Option (Nat × Nat)) : m.isNone = true ↔ repD n m = .none := by
  cases m with
  | none => exact ⟨fun _ => rfl, fun _ => rfl⟩
  | some st => exact ⟨(fun z => by cases z), (fun z => by cases z)⟩
end
/-- what evaluates to data, wherever it stands -/
def EvQ (K : PySem.W.Frag) (te : TE) (σ : L2.St) (H : Hp) (d : PyData) : Prop := ∀ H1, Ex H H1 → ∀ Q : VK, (∀ v H2, Ex H1 H2 → Dp K H2 v d → Q v H2) → te σ H1 Q
section
variable {K : PySem.W.Frag} {σ : L2.St} {H : Hp} {ta tb te : TE} {x y v : V} {D : Ends} {tz : TS}
theorem evq_of {d : PyData} (h : EvD K te σ H d) : EvQ K te σ H d := fun H1 e Q q => h H1 e Q fun v H2 e2 hv => q v H2 e2 (dp_mono (nw_ex e e2) _ _ hv)
theorem evq_call {sp : Sp} {E : XK} {t : TA} {vs : List V} {d : PyData} (h : EvA t σ H vs) (hs : ∀ H1, Ex H H1 → ∀ Q : VK, RetP K d H1 Q → ∀ E, sp (vs ++ []) H1 Q E) : EvQ K (tCall sp [] E t) σ H d := fun H1 e Q q =>
  h H1 e _ fun H2 e2 => hs H2 (e.trans e2) Q (fun v H3 e3 hv => q v H3 (e2.trans e3) hv) E
theorem evq_callD {sp : Sp} {E : XK} {t : TA} {ds : List PyData} {d : PyData} (h : EvDA K t σ H ds) (hs : ∀ vs H1, Ex H H1 → DpAll K H1 vs ds → ∀ Q : VK, RetP K d H1 Q → ∀ E, sp (vs ++ []) H1 Q E) : EvQ K (tCall sp [] E t) σ H d := fun H1 e Q q =>
  h H1 e _ fun vs H2 e2 hvs => hs vs H2 (e.trans e2) (dpAll_mono (nw_ex e e2) _ _ hvs) Q (fun v H3 e3 hv => q v H3 (e2.trans e3) hv) E
theorem ev_isN {d : PyData} {b : Bool} (h : EvQ K te σ H d) (hb : b = true ↔ d = .none) : Ev (tOp (fun x y H Q => y = V.non ∧ Q (.bl (decide (x = .non))) H) te (tC .non)) σ H (.bl b) := fun H1 e Q q =>
  h H1 e _ fun v H2 e2 hv => ⟨rfl, by rw [isN_of hv hb]; exact q H2 e2⟩
theorem ev_notN {d : PyData} {b : Bool} (h : EvQ K te σ H d) (hb : b = true ↔ d = .none) : Ev (tOp (fun x y H Q => y = V.non ∧ Q (.bl (!decide (x = .non))) H) te (tC .non)) σ H (.bl (!b)) := fun H1 e Q q =>
  h H1 e _ fun v H2 e2 hv => ⟨rfl, by rw [isN_of hv hb]; exact q H2 e2⟩
theorem q_asgQ {i : Nat} {d : PyData} (h : EvQ K te σ H d) (k : ∀ v H1, Ex H H1 → Dp K H1 v d → tz D (σ.set i (some v)) H1) : tSeq (tAsg te (gName i)) tz D σ H := h H (Ex.refl H) _ k
end
/-- two squares of one order -/
structure Two (K : PySem.W.Frag) (H : Hp) (v1 v2 : V) (n : Nat) (one other : List (List Int)) (o1 i1 o2 i2 : Bool) : Prop where
  d1 : Dp K H v1 (sqrD o1 i1 one)
  d2 : Dp K H v2 (sqrD o2 i2 other)
  l1 : Lat n one
  l2 : Lat n other
  h1 : 1 ≤ n
  h2 : n ≤ 12
end My
set_option maxHeartbeats 2000000
/-! tuples whose methods are called; squares told by comprehensions -/
namespace My
open PySem PySem.Spec PyProof.Rows L2 Evl Mm
def tTupF (t : TA) : TE := fun σ H Q => t σ H fun vs H1 => vs.length ≤ sizeLine ∧ ∀ p ob, H1 p = none → ob.cls = .type "tuple" → ob.dict = none → Q (.ref p) (upd H1 p (.frz ob (.tup vs)))
theorem pe_tupF {X : Cx} {es : List Expr} {pos : Pos} {x1} {t : TA} (h : PA X es t) : PE X (.Tuple es x1 pos) (tTupF t) := by
  refine ⟨fun pins s σ H Q I hq => ?_⟩
  refine wpAny_Tuple_spliced (thn (h.run pos pins s σ H _ I hq) fun us s1 ⟨xs, H1, I1, r, z, q⟩ => ⟨by rw [← r.length]; exact z, ?_⟩)
  have hf : H1 s1.heap.objs.size = none := I1.hok.fresh (Nat.le_refl _)
  refine ⟨.ref s1.heap.objs.size, upd H1 s1.heap.objs.size (.frz _ (.tup xs)), I1.laid (t' := s1.toks) (fun b u e => Heap.get?_push_of_some _ e) (Nat.le_refl _) ?_, rfl, q _ { cls := .type "tuple", data := .seq us.toArray } hf rfl rfl⟩
  exact ⟨Heap.get?_push_size _ rfl, z, us, r, ⟨_, Heap.get?_push_size _ rfl, rfl, _, rfl⟩⟩
def tyFrz (x : V) (H : Hp) : Prop := ∃ a ob u, x = .ref a ∧ H a = some (.frz ob u) ∧ ob.cls = .type "tuple" ∧ ob.dict = none
theorem ty_frz {X : Cx} : TyOk X "tuple" tyFrz := by
  intro pins σ H s x v I r ty
  obtain ⟨a, ob, u, rfl, h, hc, hd⟩ := ty
  cases r
  obtain ⟨e, _⟩ := I.hok a _ h
  refine ⟨⟨ob, e, hc⟩, fun b e2 => ?_⟩
  cases e2
  exact ⟨ob, e, hd⟩
section
variable {K : PySem.W.Frag} {σ : L2.St} {H : Hp} {ta tb tc te tl te2 : TE} {x y v : V} {D : Ends} {tz : TS}
/-- places in (1, 2, 3) -/
theorem ev_idx3 {p : Addr} {ob : Obj} {a : Int} (h : Ev ta σ H (.ref p)) (hp : H p = some (.frz ob (.tup [.int 1, .int 2, .int 3]))) (hc : ob.cls = .type "tuple") (hd : ob.dict = none) (hb : Ev tb σ H (.int a)) (ha : 1 ≤ a ∧ a ≤ 3) :
    Ev (tMG tyFrz (rIndexT K) ta (tCons tb tNil)) σ H (.int (a - 1)) := fun H1 e Q q => h H1 e _ fun H2 e2 => ⟨⟨p, ob, _, rfl, (e.trans e2) p _ hp, hc, hd⟩, hb H2 (e.trans e2) _ fun H3 e3 => by
    have hs : SqT K H3 p [.int 1, .int 2, .int 3] := .inl (.inr ⟨ob, ((e.trans e2).trans e3) p _ hp⟩)
    have z := q H3 (e2.trans e3)
    rcases (show a = 1 ∨ a = 2 ∨ a = 3 by omega) with rfl | rfl | rfl
    · exact ⟨p, _, .int 1, 0, .int 1, rfl, rfl, hs, rfl, rfl, rfl, rfl, fun m z' hm => absurd hm (by omega), z⟩
    · refine ⟨p, _, .int 2, 1, .int 2, rfl, rfl, hs, rfl, rfl, rfl, rfl, fun m z' hm e => ?_, z⟩
      obtain rfl : m = 0 := by omega
      cases e; rfl
    · refine ⟨p, _, .int 3, 2, .int 3, rfl, rfl, hs, rfl, rfl, rfl, rfl, fun m z' hm e => ?_, z⟩
      rcases (show m = 0 ∨ m = 1 by omega) with rfl | rfl
      · cases e; rfl
      · cases e; rfl⟩
theorem q_callA {sp : Sp} {E : XK} {t : TA} {vs : List V} {i : Nat} (h : EvA t σ H vs) (k : ∀ H1, Ex H H1 → sp (vs ++ []) H1 (fun x H2 => tz D (σ.set i (some x)) H2) E) : tSeq (tAsg (tCall sp [] E t) (gName i)) tz D σ H := h H (Ex.refl H) _ k
theorem s_callA {sp : Sp} {E : XK} {t : TA} {vs : List V} {i : Nat} (h : EvA t σ H vs) (k : ∀ H1, Ex H H1 → sp (vs ++ []) H1 (fun x H2 => D.nx (σ.set i (some x)) H2) E) : tAsg (tCall sp [] E t) (gName i) D σ H := h H (Ex.refl H) _ k
theorem q_callQ1 {sp : Sp} {E : XK} {t1 t2 : TE} {d : PyData} {i : Nat} (h1 : EvQ K t1 σ H d) (h2 : ∀ H1, Ex H H1 → Ev t2 σ H1 y) (k : ∀ v H1, Ex H H1 → Dp K H1 v d → sp [v, y] H1 (fun x H2 => tz D (σ.set i (some x)) H2) E) : tSeq (tAsg (tCall sp [] E (tCons t1 (tCons t2 tNil))) (gName i)) tz D σ H := h1 H (Ex.refl H) _ fun v H1 e1 hv => h2 H1 e1 H1 (Ex.refl _) _ fun H2 e2 => k v H2 (e1.trans e2) (dp_mono e2 _ _ hv)
theorem q_callQ2 {sp : Sp} {E : XK} {t1 t2 : TE} {d : PyData} {i : Nat} (h1 : Ev t1 σ H x) (h2 : EvQ K t2 σ H d) (k : ∀ v H1, Ex H H1 → Dp K H1 v d → sp [x, v] H1 (fun x H2 => tz D (σ.set i (some x)) H2) E) : tSeq (tAsg (tCall sp [] E (tCons t1 (tCons t2 tNil))) (gName i)) tz D σ H := h1 H (Ex.refl H) _ fun H1 e1 => h2 H1 e1 _ fun v H2 e2 hv => k v H2 (e1.trans e2) hv
theorem s_retQ {d : PyData} (h : EvQ K te σ H d) (k : RetP K d H D.rt) : tRet te D σ H := h H (Ex.refl H) _ k
theorem s_retTF {t : TA} {vs : List V} (h : EvA t σ H vs) (hl : vs.length ≤ 100000) (k : ∀ p ob H2, H p = none → Ex H H2 → ob.cls = .type "tuple" → ob.dict = none → H2 p = some (.frz ob (.tup vs)) → D.rt (.ref p) H2) : tRet (tTupF t) D σ H :=
  h H (Ex.refl _) _ fun H2 e2 => ⟨sz_of hl, fun p ob hp hc hd => k p ob _ (fresh_back e2 hp) (e2.trans (Ex.new hp)) hc hd upd_same⟩
abbrev tTupO (K : PySem.W.Frag) (te : TE) : TE := tCB (fun vs H Q => ∃ p ys, vs = [V.ref p] ∧ ((SqL K H p ys ∧ ∀ l, H l = none → Q (.ref l) (upd H l (.tup ys))) ∨ (SqT K H p ys ∧ Q (.ref p) H))) (tCons te tNil)
abbrev tLstO (K : PySem.W.Frag) (te : TE) : TE := tCB (fun vs H Q => ∃ p ys, vs = [V.ref p] ∧ (SqL K H p ys ∨ SqT K H p ys) ∧ ∀ l, H l = none → Q (.ref l) (upd H l (.lst ys))) (tCons te tNil)
theorem row_mk {n : Nat} (t : Bool) (F : Nat → Int) : rowD t ((List.range n).map F) = sq2 t ((List.range n).map fun c => PyData.int (F c)) := by
  unfold rowD pints; rw [List.map_map]; rfl
theorem evd_rowL {n j : Nat} {vs : List Nat} (F : Nat → Int) (hn : n ≤ 1000) (h : Ev te σ H (.int (n : Int))) (hw : ∀ x, wipe ((wipe σ vs).set j (some x)) vs = wipe σ vs)
    (he : ∀ c : Nat, c < n → Ev ta ((wipe σ vs).set j (some (.int (c : Int)))) H (.int (F c))) : EvD K (tLc (iRng1 (tCons te tNil)) (gName j) tYes ta vs) σ H (rowD false ((List.range n).map F)) := by
  rw [row_mk]
  have := evd_lcR (K := K) (ta := ta) (fun c => PyData.int (F c)) h (by omega) hw (fun c hc => evd_int (he c (by omega)))
  rwa [Int.toNat_natCast] at this
/-- [[.. for c in range(n)] for r in range(n)] -/
theorem evd_grid {n j : Nat} {vs : List Nat} (F : Nat → Nat → Int) (hn : n ≤ 1000) (h : Ev te σ H (.int (n : Int))) (hw : ∀ x, wipe ((wipe σ vs).set j (some x)) vs = wipe σ vs)
    (hr : ∀ r : Nat, r < n → EvD K ta ((wipe σ vs).set j (some (.int (r : Int)))) H (rowD false ((List.range n).map (F r)))) : EvD K (tLc (iRng1 (tCons te tNil)) (gName j) tYes ta vs) σ H (sqrD false false (mkRows n F)) := by
  have := evd_lcR (K := K) (ta := ta) (fun r => rowD false ((List.range n).map (F r))) h (by omega) hw (fun c hc => hr c (by omega))
  rw [Int.toNat_natCast] at this
  unfold sqrD mkRows
  rw [List.map_map]; exact this
theorem evd_gridT {n j : Nat} {vs : List Nat} (F : Nat → Nat → Int) (hn : n ≤ 1000) (h : Ev te σ H (.int (n : Int))) (hw : ∀ x, wipe ((wipe σ vs).set j (some x)) vs = wipe σ vs)
    (hr : ∀ r : Nat, r < n → EvD K ta ((wipe σ vs).set j (some (.int (r : Int)))) H (rowD true ((List.range n).map (F r)))) : EvD K (tTupO K (tLc (iRng1 (tCons te tNil)) (gName j) tYes ta vs)) σ H (sqrD true true (mkRows n F)) := by
  have := evd_lcR (K := K) (ta := ta) (fun r => rowD true ((List.range n).map (F r))) h (by omega) hw (fun c hc => hr c (by omega))
  rw [Int.toNat_natCast] at this
  unfold sqrD mkRows
  rw [List.map_map]; exact evd_tuple (t := false) this
theorem evd_rowT {r : List Int} (h : EvD K te σ H (rowD false r)) : EvD K (tTupO K te) σ H (rowD true r) := evd_tuple (t := false) h
theorem rows_map {o : Bool} {rows : List (List Int)} : (List.range rows.length).map (fun r => rowD o (rows.getD r [])) = rows.map (rowD o) := by
  apply List.ext_getElem?
  intro r
  rw [List.getElem?_map]
  by_cases hr1 : r < rows.length
  · rw [List.getElem?_range hr1, rows_get hr1]; rfl
  · rw [List.getElem?_eq_none (by simpa using hr1), List.getElem?_eq_none (by simpa using hr1)]; rfl
/-- tuple([tuple(row) for row in rows]), rows lists -/
theorem evd_toT {a : Addr} {rows : List (List Int)} {j : Nat} {vs : List Nat} (h : Ev tl σ H (.ref a)) (hd : Dp K H (.ref a) (sqrD false false rows)) (hn : rows.length ≤ 12) (hj : ∀ x, ((wipe σ vs).set j (some x))[j]? = some (some x)) (hw : ∀ x, wipe ((wipe σ vs).set j (some x)) vs = wipe σ vs) :
    EvD K (tTupO K (tLc (iList K tl) (gName j) tYes (tTupO K (tVar j)) vs)) σ H (sqrD true true rows) := by
  have := evd_lcL (K := K) (ta := tTupO K (tVar j)) (ds := rows.map (rowD false)) (fun r => rowD true (rows.getD r [])) h hd (by rw [List.length_map]; omega) hw (fun i x dx hdx hx => by
    have hi : i < rows.length := by have := (List.getElem?_eq_some_iff.mp hdx).1; rwa [List.length_map] at this
    rw [rows_get hi] at hdx
    cases hdx
    exact evd_tuple (t := false) (evd_of (ev_var (hj x)) hx))
  rw [List.length_map, rows_map] at this
  exact evd_tuple (t := false) this
/-- [list(row) for row in rows], rows tuples -/
theorem evd_toL {a : Addr} {rows : List (List Int)} {j : Nat} {vs : List Nat} (h : Ev tl σ H (.ref a)) (hd : Dp K H (.ref a) (sqrD true true rows)) (hn : rows.length ≤ 12) (hj : ∀ x, ((wipe σ vs).set j (some x))[j]? = some (some x)) (hw : ∀ x, wipe ((wipe σ vs).set j (some x)) vs = wipe σ vs) :
    EvD K (tLc (iTup K tl) (gName j) tYes (tLstO K (tVar j)) vs) σ H (sqrD false false rows) := by
  have := evd_lcT (K := K) (ta := tLstO K (tVar j)) (ds := rows.map (rowD true)) (fun r => rowD false (rows.getD r [])) h hd (by rw [List.length_map]; omega) hw (fun i x dx hdx hx => by
    have hi : i < rows.length := by have := (List.getElem?_eq_some_iff.mp hdx).1; rwa [List.length_map] at this
    rw [rows_get hi] at hdx
    cases hdx
    exact evd_list (t := true) (evd_of (ev_var (hj x)) hx))
  rw [List.length_map, rows_map] at this
  exact this
/-- xs[i], a list of ints -/
theorem ev_numL {a : Addr} {ns : List Int} {i : Nat} (ha : Ev ta σ H (.ref a)) (h : SqL K H a (ns.map V.int)) (hb : Ev tb σ H (.int (i : Int))) (hi : i < ns.length) : Ev (tOp (rIxL K) ta tb) σ H (.int (ns.getD i 0)) :=
  ev_op ha hb (rv_ixLn h (by rw [List.getElem?_map, List.getElem?_eq_getElem hi, List.getD_eq_getElem?_getD, List.getElem?_eq_getElem hi]; rfl))
/-- a list of ints, evaluated as data, indexed -/
theorem ev_natI {te : TE} {z : Int} (h : Ev te σ H (.int z)) (h0 : 0 ≤ z) : Ev te σ H (.int ((z.toNat : Nat) : Int)) := by rwa [Int.toNat_of_nonneg h0]
theorem dp_refS {t : Bool} {ds : List PyData} {v : V} (h : Dp K H v (sq2 t ds)) : ∃ a, v = .ref a := by obtain ⟨a, _, rfl, _⟩ := dp_sq2 h; exact ⟨a, rfl⟩
end
end My
set_option maxHeartbeats 2000000
/-! a caught error of an own class, asked what it is -/
namespace My
open PySem PySem.Spec PyProof.Rows L2 Evl Mm
theorem cr_anyK {X : Cx} {K : PySem.W.Frag} (h : X.K = K) (hc : X.calm = true) : CallR X (.builtin "any") (rAny K) := h ▸ cr_any hc
theorem boot_any : bootBuiltins "any" = some (.builtin "any") := by rfl
/-- what an own class D of errors is found to be: below the class M, and below ValueError -/
structure ErrM (K : PySem.W.Frag) (mg : Str → Option Value) (D M : Addr) : Prop where
  ex : ExcC K D
  gM : mg "MatedsquaresError" = some (.ref M)
  kM : PySem.W.kitOne K (.ref D) (.ref M) = some true
  kV : PySem.W.kitOne K (.ref D) (.type "ValueError") = some true
  nV : mg "ValueError" = none
theorem boot_ValueError : bootBuiltins "ValueError" = some (.type "ValueError") := by rfl
def tIsE (K : PySem.W.Frag) (D a : Addr) (cls : Value) (d : Option Addr) (t : TA) : TE := fun σ H Q => cls = .ref D ∧ d = none ∧ tCB (rIsE K D a) t σ H Q
theorem pe_isE {X : Cx} {K : PySem.W.Frag} {a D : Addr} {oe : Obj} {pn : List (Addr × Obj)} {cls : Value} {d : Option Addr} {x : Str} {p pos : Pos} {e : Expr} {es : List Expr} {t : TA} (hK : X.K = K) (C : ExcC K D) (hz : Zc cls d oe) (hf : ∃ vs, oe.data = .fields vs)
    (hg : Gl (X.suite a ((a, oe) :: pn)) x) (hm : (X.suite a ((a, oe) :: pn)).mg x = none) (hb : bootBuiltins x = some (.builtin "isinstance")) (ha : PA (X.suite a ((a, oe) :: pn)) (e :: es) t)
    (h1 : x ≠ ("__name__" : Str) := by decide) (h2 : (x == ("__debug__" : Str)) = false := by decide)
    (h3 : starEach (e :: es) (X.suite a ((a, oe) :: pn)).env = (false, eval e (X.suite a ((a, oe) :: pn)).env) :: starEach es (X.suite a ((a, oe) :: pn)).env := by rfl) (h4 : ((backTo pos (starEach es (X.suite a ((a, oe) :: pn)).env)).any fun x => x.1) = false := by rfl) :
    PE (X.suite a ((a, oe) :: pn)) (.Call (.Name x p) (e :: es) [] pos) (tIsE K D a cls d t) := by
  subst hK
  refine ⟨fun pins s σ H Q I h => ?_⟩
  obtain ⟨rfl, rfl, h⟩ := h
  exact (pe_callB (call_isE C hz hf) hg hm hb ha h1 h2 h3 h4).run pins s σ H Q I h
section
variable {K : PySem.W.Frag} {σ : L2.St} {H : Hp} {ta tb tc te tl te2 : TE} {x y v : V} {D : Ends} {tz : TS}
/-- the suite's own return: e is an error of the two classes -/
theorem ev_isE {mg : Str → Option Value} {C M a : Addr} {i : Nat} (E : ErrM K mg C M) (h : σ[i]? = some (some (.ref a))) :
    Ev (tAndV (tIsE K C a (.ref C) none (tCons (tVar i) (tCons (tC (.ref M)) tNil))) (tIsE K C a (.ref C) none (tCons (tVar i) (tCons (tC (.ty "ValueError")) tNil)))) σ H (.bl true) := by
  refine ev_is (ev_andV (a := true) (b := true) ?_ fun _ => ?_) rfl
  · exact fun H1 e Q q => ⟨rfl, rfl, (ea_cons (ev_var h) (ea_cons ev_c ea_nil)) H1 e _ fun H2 e2 => ⟨_, .ref M, true, rfl, fun u hu => hu, E.kM, q H2 e2⟩⟩
  · exact fun H1 e Q q => ⟨rfl, rfl, (ea_cons (ev_var h) (ea_cons ev_c ea_nil)) H1 e _ fun H2 e2 => ⟨_, .type "ValueError", true, rfl, fun u hu => hu, E.kV, q H2 e2⟩⟩
theorem ev_told {mg : Str → Option Value} {C M a : Addr} {i : Nat} {s1 s2 : Str} (E : ErrM K mg C M) (h : σ[i]? = some (some (.ref a))) :
    Ev (tOp (rIxL K) (tLst (tCons (tC (.str s1)) (tCons (tC (.str s2)) tNil))) (tCB (fun xs H Q => (∃ i, xs = [V.int i] ∧ Q (.int i) H) ∨ ∃ k, xs = [V.bl k] ∧ Q (.int (if k then 1 else 0)) H) (tCons (tAndV (tIsE K C a (.ref C) none (tCons (tVar i) (tCons (tC (.ref M)) tNil))) (tIsE K C a (.ref C) none (tCons (tVar i) (tCons (tC (.ty "ValueError")) tNil)))) tNil))) σ H (.str s2) :=
  ev_opL1 (xs := [.str s1, .str s2]) (y := .int ((1 : Nat) : Int)) (el_lst (ea_cons ev_c (ea_cons ev_c ea_nil)) (by show 2 ≤ 100000; decide)) (fun H1 e1 H2 e2 Q q => ev_isE E h H2 (e1.trans e2) _ fun H3 e3 => .inr ⟨true, rfl, q H3 e3⟩) fun p H1 hp e => rv_ixLn (sq_of hp) rfl
end
end My
set_option maxHeartbeats 2000000
/-! zip of two sequences of which each may be a list or a tuple: by what an iterator within must do -/
namespace My
open PySem PySem.Spec PyProof.Rows L2 Evl Mm
/-- an iterator within: st k: it stands ahead of the item k of the sequence at l, which is as src says -/
structure Within2 (prog : Program) (w : World) (it l : Addr) (st : Nat → Heap → Prop) (src : Heap → Prop) (items : Nat → Option Value) : Prop where
  stK : ∀ k (h h' : Heap), st k h → (∀ o, h.get? it = some o → h'.get? it = some o) → st k h'
  srcK : ∀ h h' : Heap, src h → (∀ o, h.get? l = some o → h'.get? l = some o) → src h'
  obj : ∀ k h, st k h → ∃ (o : Obj) (vs : Array Value), h.get? it = some o ∧ o.data = .fields vs
  item : ∀ {A : Around} {E : Value → Shared → Prop} {s : Shared} {k : Nat} {x : Value} {Q : Value → Shared → Prop}, st k s.heap → src s.heap → items k = some x → (∀ h', st (k + 1) h' → Heap.SameBut it s.heap h' → Q x { s with heap := h' }) → wpAny (model prog w) A (Builtin.SmallTypes.nextOf (.ref it)) Q E s
  done : ∀ {A : Around} {E : Value → Shared → Prop} {s : Shared} {k : Nat} {Q : Value → Shared → Prop}, A.handled = none → st k s.heap → src s.heap → items k = none → (∀ h' e, Heap.ExtBut it s.heap h' → (∃ o, h'.get? e = some o ∧ o.cls = .type "StopIteration") → E (.ref e) { s with heap := h' }) → wpAny (model prog w) A (Builtin.SmallTypes.nextOf (.ref it)) Q E s
theorem within_list {prog : Program} {w : World} {it l : Addr} {xs : Array Value} : Within2 prog w it l (fun k h => h.IsListIter it l k) (fun h => h.IsList l xs) (fun k => xs[k]?) where
  stK := fun k h h' a e => a.at e
  srcK := fun h h' a e => by obtain ⟨o, e1, r⟩ := a; exact ⟨o, e _ e1, r⟩
  obj := fun k h a => by obtain ⟨o, e, _, d⟩ := a; exact ⟨o, _, e, d⟩
  item := fun a b c q => wpAny_nextOf_list_item a b c q
  done := fun hh a b c q => wpAny_nextOf_list_end hh a b c q
theorem within_tup {prog : Program} {w : World} {it l : Addr} {xs : Array Value} : Within2 prog w it l (fun k h => h.IsTupleIter it l k) (fun h => h.IsTuple l xs) (fun k => xs[k]?) where
  stK := fun k h h' a e => a.at e
  srcK := fun h h' a e => by obtain ⟨o, e1, r⟩ := a; exact ⟨o, e _ e1, r⟩
  obj := fun k h a => by obtain ⟨o, e, _, d⟩ := a; exact ⟨o, _, e, d⟩
  item := fun a b c q => RZ.nextOf_tuple_item a b c q
  done := fun hh a b c q => RZ.nextOf_tuple_end hh a b c q
section
variable {prog : Program} {w : World} {A : Around} {E : Value → Shared → Prop} {s : Shared} {z TI TO i1 i2 l1 l2 : Addr} {st1 st2 : Nat → Heap → Prop} {src1 src2 : Heap → Prop} {it1 it2 : Nat → Option Value} {k1 k2 : Nat} {a b : Value}
theorem zipW_item {x y : Value} {Q : Value → Shared → Prop} (W1 : Within2 prog w i1 l1 st1 src1 it1) (W2 : Within2 prog w i2 l2 st2 src2 it2) (D : ZipApart z TI TO i1 i2 l1 l2)
    (hz : IsZip s.heap z TI TO .none) (hTI : IsPair s.heap TI (.ref i1) (.ref i2)) (hTO : IsPair s.heap TO a b) (h1 : st1 k1 s.heap) (h2 : st2 k2 s.heap) (g1 : src1 s.heap) (g2 : src2 s.heap) (hx : it1 k1 = some x) (hy : it2 k2 = some y)
    (hQ : ∀ h', IsZip h' z TI TO (rawInt s.heap.objs.size) → IsPair h' TO x y → st1 (k1 + 1) h' → st2 (k2 + 1) h' → IsPair h' s.heap.objs.size x y → (∀ c o, c ≠ z → c ≠ TO → c ≠ i1 → c ≠ i2 → s.heap.get? c = some o → h'.get? c = some o) → Q (.ref s.heap.objs.size) { s with heap := h' }) :
    wpAny (model prog w) A (Builtin.«zip.__next__» ⟨[.ref z], []⟩) (fun fin s' => ∃ v, fin = .done (.ret v) ∧ Q v s') E s := by
  show wpAny _ _ (field (.ref z) 2 >>= _) _ _ _
  refine wpAny_bind (wpAny_field hz rfl (x := .bool false) rfl ?_)
  show wpAny _ _ (field (.ref z) 3 >>= _) _ _ _
  refine wpAny_bind (wpAny_field hz rfl (x := .ref TI) rfl (wpAny_bind (wpAny_seqItems hTI rfl ?_)))
  show wpAny _ _ (Builtin.SmallTypes.ownedTupleIsFree (.ref z) >>= _) _ _ _
  unfold Builtin.SmallTypes.ownedTupleIsFree
  refine wpAny_bind (wpAny_bind (wpAny_field hz rfl (x := .none) rfl (wpAny_pure ?_)))
  simp only [if_true]
  refine wpAny_bind (wpAny_rule (wpAny_bind (wpAny_field hz rfl (x := .ref TO) rfl (wpAny_bind (wpAny_setField_rec hz (by simp) fun ha za sa => ?_)))))
  have za' : IsZip ha z TI TO .ellipsis := za
  have ea := sa.extBut
  refine wpAny_bind ?_
  simp only [List.zipIdx_cons, List.zipIdx_nil, List.forIn_cons, List.forIn_nil]
  refine wpAny_bind (wpAny_bind (wpAny_onRaise ?_))
  show wpAny _ _ (Builtin.SmallTypes.nextOf (.ref i1) >>= _) _ _ _
  refine wpAny_bind (W1.item (W1.stK _ _ _ h1 (ea i1 · D.i1z)) (W1.srcK _ _ g1 (ea l1 · D.l1z)) hx fun hb sb1 sb => wpAny_pure ?_)
  have eb := sb.extBut
  have pb : IsPair hb TO a b := eb _ _ D.TOi1 (ea _ _ D.TOz hTO)
  refine wpAny_bind (wpAny_seqItems pb rfl (wpAny_bind (wpAny_updateSeq_pair pb fun hc pc sc => wpAny_bind (wpAny_letGo (wpAny_pure ?_)))))
  have pc' : IsPair hc TO x b := pc
  have ec := sc.extBut
  refine wpAny_bind (wpAny_bind (wpAny_onRaise ?_))
  show wpAny _ _ (Builtin.SmallTypes.nextOf (.ref i2) >>= _) _ _ _
  have up3 : ∀ c o, c ≠ z → c ≠ TO → c ≠ i1 → s.heap.get? c = some o → hc.get? c = some o := fun c o c1 c2 c3 e => ec c o c2 (eb c o c3 (ea c o c1 e))
  refine wpAny_bind (W2.item (W2.stK _ _ _ h2 fun o => up3 i2 o D.i2z D.TOi2.symm D.i12.symm) (W2.srcK _ _ g2 fun o => up3 l2 o D.l2z D.l2TO D.l2i1) hy fun hd sd2 sd => wpAny_pure ?_)
  have ed := sd.extBut
  have pd : IsPair hd TO x b := ed _ _ D.TOi2 pc'
  refine wpAny_bind (wpAny_seqItems pd rfl (wpAny_bind (wpAny_updateSeq_pair pd fun he pe se => wpAny_bind (wpAny_letGo (wpAny_pure (wpAny_pure ?_))))))
  have pe' : IsPair he TO x y := pe
  have ee := se.extBut
  refine wpAny_bind (wpAny_seqItems pe' rfl (wpAny_bind (wpAny_newTuple ?_)))
  have hsz : he.objs.size = s.heap.objs.size := by rw [se.1, sd.1, sc.1, sb.1, sa.1]
  have ze : IsZip he z TI TO .ellipsis := ee _ _ D.TOz.symm (ed _ _ D.i2z.symm (ec _ _ D.TOz.symm (eb _ _ D.i1z.symm za')))
  have up5 : ∀ c o, c ≠ z → c ≠ TO → c ≠ i1 → c ≠ i2 → s.heap.get? c = some o → he.get? c = some o := fun c o c1 c2 c3 c4 e => ee c o c2 (ed c o c4 (up3 c o c1 c2 c3 e))
  have t1 : st1 (k1 + 1) he := W1.stK _ _ _ sb1 fun o e => ee _ _ D.TOi1.symm (ed _ _ D.i12 (ec _ _ D.TOi1.symm e))
  have t2 : st2 (k2 + 1) he := W2.stK _ _ _ sd2 fun o e => ee _ _ D.TOi2.symm e
  have hzlt : z < he.objs.size := Heap.lt_size ze
  show wpAny _ _ (Builtin.SmallTypes.ownedTupleHandOut (.ref z) (.ref he.objs.size) >>= _) _ _ _
  unfold Builtin.SmallTypes.ownedTupleHandOut
  have zf : IsZip (he.push { cls := .type "tuple", data := .seq #[x, y] }) z TI TO .ellipsis := Heap.get?_push_of_some _ ze
  refine wpAny_bind (wpAny_bind (wpAny_setField_rec zf (by simp) fun hg zg sg => ?_))
  have zg' : IsZip hg z TI TO (rawInt he.objs.size) := zg
  refine wpAny_setField_rec zg' (by simp) fun hh zh sh => wpAny_pure ⟨_, rfl, ?_⟩
  have zh' : IsZip hh z TI TO (rawInt he.objs.size) := zh
  have up : ∀ c o, c ≠ z → he.get? c = some o → hh.get? c = some o := fun c o c1 e => sh.extBut c o c1 (sg.extBut c o c1 (Heap.get?_push_of_some _ e))
  have pT : IsPair hh he.objs.size x y := sh.extBut _ _ (Nat.ne_of_gt hzlt) (sg.extBut _ _ (Nat.ne_of_gt hzlt) (Heap.get?_push_size _ rfl))
  rw [hsz] at zh' pT
  show Q (.ref he.objs.size) _
  rw [hsz]
  exact hQ hh zh' (up _ _ D.TOz pe') (W1.stK _ _ _ t1 fun o => up _ o D.i1z) (W2.stK _ _ _ t2 fun o => up _ o D.i2z) pT fun c o c1 c2 c3 c4 e => up c o c1 (up5 c o c1 c2 c3 c4 e)
theorem zipW_end {Q : Fin → Shared → Prop} (W1 : Within2 prog w i1 l1 st1 src1 it1) (W2 : Within2 prog w i2 l2 st2 src2 it2) (hA : A.handled = none) (D : ZipApart z TI TO i1 i2 l1 l2)
    (hz : IsZip s.heap z TI TO .none) (hTI : IsPair s.heap TI (.ref i1) (.ref i2)) (hTO : IsPair s.heap TO a b) (h1 : st1 k1 s.heap) (h2 : st2 k2 s.heap) (g1 : src1 s.heap) (g2 : src2 s.heap) (hend : it1 k1 = none ∨ it2 k2 = none)
    (hE : ∀ h' e, (∀ c o, c ≠ z → c ≠ TO → c ≠ i1 → c ≠ i2 → s.heap.get? c = some o → h'.get? c = some o) → (∃ o, h'.get? e = some o ∧ o.cls = .type "StopIteration") → E (.ref e) { s with heap := h' }) :
    wpAny (model prog w) A (Builtin.«zip.__next__» ⟨[.ref z], []⟩) Q E s := by
  show wpAny _ _ (field (.ref z) 2 >>= _) _ _ _
  refine wpAny_bind (wpAny_field hz rfl (x := .bool false) rfl ?_)
  show wpAny _ _ (field (.ref z) 3 >>= _) _ _ _
  refine wpAny_bind (wpAny_field hz rfl (x := .ref TI) rfl (wpAny_bind (wpAny_seqItems hTI rfl ?_)))
  show wpAny _ _ (Builtin.SmallTypes.ownedTupleIsFree (.ref z) >>= _) _ _ _
  unfold Builtin.SmallTypes.ownedTupleIsFree
  refine wpAny_bind (wpAny_bind (wpAny_field hz rfl (x := .none) rfl (wpAny_pure ?_)))
  simp only [if_true]
  refine wpAny_bind (wpAny_rule (wpAny_bind (wpAny_field hz rfl (x := .ref TO) rfl (wpAny_bind (wpAny_setField_rec hz (by simp) fun ha za sa => ?_)))))
  have za' : IsZip ha z TI TO .ellipsis := za
  have ea := sa.extBut
  refine wpAny_bind ?_
  simp only [List.zipIdx_cons, List.zipIdx_nil, List.forIn_cons, List.forIn_nil]
  refine wpAny_bind (wpAny_bind (wpAny_onRaise ?_))
  show wpAny _ _ (Builtin.SmallTypes.nextOf (.ref i1) >>= _) _ _ _
  -- the error leaves the loop: the zip's mark is taken back
  have out : ∀ {h : Heap} {e : Addr}, IsZip h z TI TO .ellipsis → (∃ o, h.get? e = some o ∧ o.cls = .type "StopIteration") → e ≠ z := fun {h e} z1 z2 x => by
    obtain ⟨o, e1, e2⟩ := z2
    subst x
    have e3 := z1.symm.trans e1
    cases e3
    simp at e2
  cases hx : it1 k1 with
  | none =>
    refine wpAny_bind (W1.done hA (W1.stK _ _ _ h1 (ea i1 · D.i1z)) (W1.srcK _ _ g1 (ea l1 · D.l1z)) hx fun hb e eb he => ?_)
    have zb : IsZip hb z TI TO .ellipsis := eb _ _ D.i1z.symm za'
    have hez := out zb he
    obtain ⟨oe, hoe, hce⟩ := he
    exact wpAny_setField_rec zb (by simp) fun hc _ sc => hE hc e (fun c o c1 _ c3 _ x => sc.extBut _ _ c1 (eb _ _ c3 (ea _ _ c1 x))) ⟨oe, sc.extBut _ _ hez hoe, hce⟩
  | some x =>
    have hy : it2 k2 = none := hend.resolve_left (by rw [hx]; exact fun z => nomatch z)
    refine wpAny_bind (W1.item (W1.stK _ _ _ h1 (ea i1 · D.i1z)) (W1.srcK _ _ g1 (ea l1 · D.l1z)) hx fun hb sb1 sb => wpAny_pure ?_)
    have eb := sb.extBut
    have pb : IsPair hb TO a b := eb _ _ D.TOi1 (ea _ _ D.TOz hTO)
    refine wpAny_bind (wpAny_seqItems pb rfl (wpAny_bind (wpAny_updateSeq_pair pb fun hc pc sc => wpAny_bind (wpAny_letGo (wpAny_pure ?_)))))
    have ec := sc.extBut
    refine wpAny_bind (wpAny_bind (wpAny_onRaise ?_))
    show wpAny _ _ (Builtin.SmallTypes.nextOf (.ref i2) >>= _) _ _ _
    have up3 : ∀ c o, c ≠ z → c ≠ TO → c ≠ i1 → s.heap.get? c = some o → hc.get? c = some o := fun c o c1 c2 c3 e => ec c o c2 (eb c o c3 (ea c o c1 e))
    refine wpAny_bind (W2.done hA (W2.stK _ _ _ h2 fun o => up3 i2 o D.i2z D.TOi2.symm D.i12.symm) (W2.srcK _ _ g2 fun o => up3 l2 o D.l2z D.l2TO D.l2i1) hy fun hd e ed he => ?_)
    have zd : IsZip hd z TI TO .ellipsis := ed _ _ D.i2z.symm (ec _ _ D.TOz.symm (eb _ _ D.i1z.symm za'))
    have hez := out zd he
    obtain ⟨oe, hoe, hce⟩ := he
    exact wpAny_setField_rec zd (by simp) fun hf _ sf => hE hf e (fun c o c1 c2 c3 c4 x => sf.extBut _ _ c1 (ed _ _ c4 (up3 c o c1 c2 c3 x))) ⟨oe, sf.extBut _ _ hez hoe, hce⟩
end
end My
set_option maxHeartbeats 2000000
/-! zip of a tuple and a list -/
namespace My
open PySem PySem.Spec PyProof.Rows L2 Evl Mm
def itT (l : Addr) : Obj := { cls := .type "tuple_iterator", data := .fields #[.ref l, .int 0 0] }
def itL (l : Addr) : Obj := { cls := .type "list_iterator", data := .fields #[.ref l, .int 0 0] }
abbrev zm2 (h : Heap) (l1 l2 : Addr) : Heap := (h.push { cls := .type "tuple_iterator", data := .fields #[.ref l1, .int 0 0] }).push { cls := .type "list_iterator", data := .fields #[.ref l2, .int 0 0] }
abbrev zm4 (h : Heap) (l1 l2 : Addr) : Heap := ((zm2 h l1 l2).push { cls := .type "tuple", data := .seq #[.ref h.objs.size, .ref (h.push { cls := .type "tuple_iterator", data := .fields #[.ref l1, .int 0 0] }).objs.size] }).push { cls := .type "tuple", data := .seq #[.none, .none] }
abbrev zm5 (h : Heap) (l1 l2 : Addr) : Heap := (zm4 h l1 l2).push { cls := .type "zip", data := .fields #[.none, .bool false, .bool false, .ref (zm2 h l1 l2).objs.size, .ref ((zm2 h l1 l2).push { cls := .type "tuple", data := .seq #[.ref h.objs.size, .ref (h.push { cls := .type "tuple_iterator", data := .fields #[.ref l1, .int 0 0] }).objs.size] }).objs.size] }
theorem zipM_new (l1 l2 : Addr) (xs ys : Array Value) :
    Meets (Builtin.«zip.__new__» ⟨[.type "zip", .ref l1, .ref l2], []⟩) (fun _ R s => s.heap.IsTuple l1 xs ∧ s.heap.IsList l2 ys ∧ R (.ok (.ret (.ref (zm4 s.heap l1 l2).objs.size))) { s with heap := zm5 s.heap l1 l2 }) :=
  .of_wp fun prog w A R s h => by
    obtain ⟨hp, g, d, tk, os⟩ := s
    obtain ⟨q1, q2, h⟩ := h
    have sub := sub_zip
    have w1 : Heap.IsTuple (Shared.heap ⟨hp, g, d, tk, os⟩) l1 xs := q1
    have w2 : Heap.IsList (Shared.heap ⟨hp.push { cls := .type "tuple_iterator", data := .fields #[.ref l1, .int 0 0] }, g, d, tk, os⟩) l2 ys := Heap.IsList.push q2 _
    wp_walk using wpAny_pyIter_tuple w1, wpAny_pyIter_list w2
    exact ⟨_, rfl, h⟩
section
variable {prog : Program} {w : World} {A : Around} {E : Value → Shared → Prop} {s : Shared}
theorem call_zipM {l1 l2 : Addr} {xs ys : Array Value} {Q : Value → Shared → Prop} (q1 : s.heap.IsTuple l1 xs) (q2 : s.heap.IsList l2 ys)
    (h : ∀ h', IsZip h' (s.heap.objs.size + 4) (s.heap.objs.size + 2) (s.heap.objs.size + 3) .none → IsPair h' (s.heap.objs.size + 2) (.ref s.heap.objs.size) (.ref (s.heap.objs.size + 1)) →
      IsPair h' (s.heap.objs.size + 3) .none .none → h'.IsTupleIter s.heap.objs.size l1 0 → h'.IsListIter (s.heap.objs.size + 1) l2 0 → (∀ c o, s.heap.get? c = some o → h'.get? c = some o) → Q (.ref (s.heap.objs.size + 4)) { s with heap := h' }) :
    wpAny (model prog w) A (call (.type "zip") [.ref l1, .ref l2]) Q E s := by
  refine callType_new F.called_zip (by decide) (F.typeCall_zip_2 _ _) (F.newCall_zip_2 _ _) (fun obj => F.args_object_init_3 obj _ _) F.entry_zip_new (zipM_new l1 l2 xs ys) ⟨q1, q2, ?_⟩
  generalize hm : s.heap.objs.size = m
  have n1 : (s.heap.push { cls := .type "tuple_iterator", data := .fields #[.ref l1, .int 0 0] }).objs.size = m + 1 := by rw [Heap.size_push, hm]
  have n2 : (zm2 s.heap l1 l2).objs.size = m + 2 := by rw [Heap.size_push, n1]
  have n3 : ((zm2 s.heap l1 l2).push { cls := .type "tuple", data := .seq #[.ref s.heap.objs.size, .ref (s.heap.push { cls := .type "tuple_iterator", data := .fields #[.ref l1, .int 0 0] }).objs.size] }).objs.size = m + 3 := by rw [Heap.size_push, n2]
  have n4 : (zm4 s.heap l1 l2).objs.size = m + 4 := by rw [Heap.size_push, n3]
  have g5 : (zm5 s.heap l1 l2).get? (zm4 s.heap l1 l2).objs.size = some _ := Heap.get?_push_size _ rfl
  have g4 : (zm5 s.heap l1 l2).get? ((zm2 s.heap l1 l2).push { cls := .type "tuple", data := .seq #[.ref s.heap.objs.size, .ref (s.heap.push { cls := .type "tuple_iterator", data := .fields #[.ref l1, .int 0 0] }).objs.size] }).objs.size = some _ := Heap.get?_push_of_some _ (Heap.get?_push_size _ rfl)
  have g3 : (zm5 s.heap l1 l2).get? (zm2 s.heap l1 l2).objs.size = some _ := Heap.get?_push_of_some _ (Heap.get?_push_of_some _ (Heap.get?_push_size _ rfl))
  have g2 : (zm5 s.heap l1 l2).get? (s.heap.push { cls := .type "tuple_iterator", data := .fields #[.ref l1, .int 0 0] }).objs.size = some _ := Heap.get?_push_of_some _ (Heap.get?_push_of_some _ (Heap.get?_push_of_some _ (Heap.get?_push_size _ rfl)))
  have g1 : (zm5 s.heap l1 l2).get? s.heap.objs.size = some _ := Heap.get?_push_of_some _ (Heap.get?_push_of_some _ (Heap.get?_push_of_some _ (Heap.get?_push_of_some _ (Heap.get?_push_size _ rfl))))
  have old : ∀ c o, s.heap.get? c = some o → (zm5 s.heap l1 l2).get? c = some o := fun c o x => Heap.get?_push_of_some _ (Heap.get?_push_of_some _ (Heap.get?_push_of_some _ (Heap.get?_push_of_some _ (Heap.get?_push_of_some _ x))))
  show _ ∧ _
  rw [n4, n2, n3] at g5
  rw [n3] at g4
  rw [n2, n1, hm] at g3
  rw [n1] at g2
  rw [hm] at g1 h
  rw [n4]
  exact ⟨⟨_, g5, rfl⟩, h _ g5 g3 g4 ⟨_, g1, rfl, rfl⟩ ⟨_, g2, rfl, rfl⟩ old⟩
end
end My
set_option maxHeartbeats 2000000
/-! a walk over zip of a tuple and a list -/
namespace My
open PySem PySem.Spec PyProof.Rows L2 Evl Mm
def ItzM (K : PySem.W.Frag) (a b : Addr) : It :=
  ⟨fun i H => ∃ (xs ys : List V) (x y : V), SqT K H a xs ∧ SqL K H b ys ∧ xs[i]? = some x ∧ ys[i]? = some y,
    fun i H v H' => ∃ T x y, v = .ref T ∧ H T = none ∧ H' = upd H T (.tup [x, y]) ∧ (∀ xs, SqT K H a xs → xs[i]? = some x) ∧ ∀ ys, SqL K H b ys → ys[i]? = some y,
    fun i H => ∃ xs ys : List V, SqT K H a xs ∧ SqL K H b ys ∧ (xs.length ≤ i ∨ ys.length ≤ i)⟩
theorem walk_zipM {K : PySem.W.Frag} {a b : Addr} {xs ys : List V} {n : Nat} (hn : n = min xs.length ys.length) : Walk (ItzM K a b) n (fun H => SqT K H a xs ∧ SqL K H b ys) (YPair (fun i => xs[i]?) (fun i => ys[i]?)) where
  goes := fun i H hi q => ⟨xs, ys, xs[i]'(by omega), ys[i]'(by omega), q.1, q.2, List.getElem?_eq_getElem _, List.getElem?_eq_getElem _⟩
  stops := fun H q => ⟨xs, ys, q.1, q.2, by omega⟩
  yields := fun i H v H' _ q y => by obtain ⟨T, x, z, h1, h2, h3, h4, h5⟩ := y; exact ⟨T, x, z, h1, h2, h3, h4 xs q.1, h5 ys q.2⟩
theorem walk_zipT {K : PySem.W.Frag} {a b : Addr} {xs ys : List V} {n : Nat} (hn : n = min xs.length ys.length) : Walk (RZ.ItzT K a b) n (fun H => SqT K H a xs ∧ SqT K H b ys) (YPair (fun i => xs[i]?) (fun i => ys[i]?)) where
  goes := fun i H hi q => ⟨xs, ys, xs[i]'(by omega), ys[i]'(by omega), q.1, q.2, List.getElem?_eq_getElem _, List.getElem?_eq_getElem _⟩
  stops := fun H q => ⟨xs, ys, q.1, q.2, by omega⟩
  yields := fun i H v H' _ q y => by obtain ⟨T, x, z, h1, h2, h3, h4, h5⟩ := y; exact ⟨T, x, z, h1, h2, h3, h4 xs q.1, h5 ys q.2⟩
theorem turn_zipM {P : Program} {w : World} {K : PySem.W.Frag} {elts : List Expr} {kk : Nat} {tpos : Pos} {a b z TI TO i1 i2 : Addr} (D : ZipApart z TI TO i1 i2 a b) :
    Turn P w K (.Tuple elts kk tpos) (ItzM K a b) [z, TI, TO, i1, i2] z (fun i h => IsZip h z TI TO .none ∧ IsPair h TI (.ref i1) (.ref i2) ∧ (∃ x y, IsPair h TO x y) ∧ h.IsTupleIter i1 a i ∧ h.IsListIter i2 b i) where
  mem := List.mem_cons_self
  obj := fun i h st c hc => by
    obtain ⟨hz, hTI, ⟨x, y, hTO⟩, ⟨o1, e1, _, d1⟩, ⟨o2, e2, _, d2⟩⟩ := st
    simp only [List.mem_cons, List.not_mem_nil, or_false] at hc
    rcases hc with rfl | rfl | rfl | rfl | rfl
    · exact ⟨_, hz, fun v q => nomatch q⟩
    · exact ⟨_, hTI, fun v q => nomatch q⟩
    · exact ⟨_, hTO, fun v q => nomatch q⟩
    · exact ⟨o1, e1, fun v q => nomatch d1.symm.trans q⟩
    · exact ⟨o2, e2, fun v q => nomatch d2.symm.trans q⟩
  keep := fun i h h' st k => by
    obtain ⟨hz, hTI, ⟨x, y, hTO⟩, h1, h2⟩ := st
    exact ⟨k z (by simp) _ hz, k TI (by simp) _ hTI, ⟨x, y, k TO (by simp) _ hTO⟩, h1.at (k i1 (by simp)), h2.at (k i2 (by simp))⟩
  item := by
    intro X hP hw hK hc i pins s σ H E I hf st hg
    subst hP hw hK
    obtain ⟨hz, hTI, ⟨x0, y0, hTO⟩, h1, h2⟩ := st
    obtain ⟨xs, ys, x, y, q1, q2, hx, hy⟩ := hg
    obtain ⟨us, rv, p1, _⟩ := I.tuple q1
    obtain ⟨vs, rw2, p2, _⟩ := I.list q2
    obtain ⟨u, hu, ru⟩ := rv.get hx
    obtain ⟨v, hv, rv2⟩ := rw2.get hy
    have nx : ∀ {Q : Option Value → Shared → Prop}, (∀ h', IsZip h' z TI TO (rawInt s.heap.objs.size) → IsPair h' TO u v → h'.IsTupleIter i1 a (i + 1) → h'.IsListIter i2 b (i + 1) → IsPair h' s.heap.objs.size u v → (∀ c o, c ≠ z → c ≠ TO → c ≠ i1 → c ≠ i2 → s.heap.get? c = some o → h'.get? c = some o) → Q (some (.ref s.heap.objs.size)) { s with heap := h' }) → wpAny (model X.prog X.w) X.A (pyNext (.ref z)) Q E s := fun {Q} k => by
      have hT : s.TypeIs (.ref z) "zip" := ⟨_, hz, rfl⟩
      unfold pyNext
      refine wpAny_bind (wpAny_attempt (wpAny_callSpecial?_slot (name := Str.ofString "__next__") hT F.slot_zip_next (wpAny_call_entry F.slot_zip_next hT F.entry_zip_next ?_ (F.args_zip_next_1 _))))
      exact zipW_item (within_tup (xs := us.toArray)) (within_list (xs := vs.toArray)) D hz hTI hTO h1 h2 (show s.heap.IsTuple a us.toArray from p1) p2.isList (by simpa using hu) (by simpa using hv) fun h' a1 a2 a3 a4 a5 a6 => wpAny_pure (k h' a1 a2 a3 a4 a5 a6)
    refine nx fun h' z1 z2 z3 z4 z5 z6 => ⟨_, rfl, wpAny_letOwnedTupleGo_zip (s := { s with heap := h' }) z1 fun h2' z1' sb => ?_⟩
    have eb := sb.extBut
    have hzl : z < s.heap.objs.size := Heap.lt_size hz
    have pT : h2'.get? s.heap.objs.size = some { cls := .type "tuple", data := .seq #[u, v] } := eb _ _ (Nat.ne_of_gt hzl) z5
    have keep : ∀ c o, c ∉ [z, TI, TO, i1, i2] → s.heap.get? c = some o → h2'.get? c = some o := fun c o hb q => by
      simp only [List.mem_cons, List.not_mem_nil, or_false, not_or] at hb
      exact eb c o hb.1 (z6 c o hb.1 hb.2.2.1 hb.2.2.2.1 hb.2.2.2.2 q)
    have I1 : Inv X pins σ (upd H s.heap.objs.size (.tup [x, y])) { s with heap := h2' } :=
      I.turnedNew (t' := s.toks) (ch := [z, TI, TO, i1, i2]) keep hf (Nat.le_refl _) ⟨by show 2 ≤ sizeLine; decide, [u, v], .cons ru (.cons rv2 .nil), ⟨_, pT, rfl, _, rfl⟩⟩
    refine ⟨.ref s.heap.objs.size, _, I1, rfl, ⟨_, x, y, rfl, I.hok.fresh (Nat.le_refl _), rfl, fun l hl => by rw [I.tuple_inj hl q1]; exact hx, fun l hl => by rw [I.list_inj hl q2]; exact hy⟩, ⟨z1', eb _ _ D.TIz (z6 _ _ D.TIz D.TITO D.TIi1 D.TIi2 hTI), ⟨u, v, eb _ _ D.TOz z2⟩, z3.at fun o => eb _ o D.i1z, z4.at fun o => eb _ o D.i2z⟩, fun c hcm => ?_⟩
    have hlt : c < s.heap.objs.size := by
      obtain ⟨_, e1, _⟩ := h1
      obtain ⟨_, e2, _⟩ := h2
      simp only [List.mem_cons, List.not_mem_nil, or_false] at hcm
      rcases hcm with rfl | rfl | rfl | rfl | rfl
      · exact hzl
      · exact Heap.lt_size hTI
      · exact Heap.lt_size hTO
      · exact Heap.lt_size e1
      · exact Heap.lt_size e2
    rw [upd_ne (Nat.ne_of_lt hlt)]
    exact (hf c hcm).1
  done := by
    intro X hP hw hK hc i pins s σ H E I hf st hg
    subst hP hw hK
    obtain ⟨hz, hTI, ⟨x0, y0, hTO⟩, h1, h2⟩ := st
    obtain ⟨xs, ys, q1, q2, hend⟩ := hg
    obtain ⟨us, rv, p1, _⟩ := I.tuple q1
    obtain ⟨vs, rw2, p2, _⟩ := I.list q2
    have l1 := rv.length
    have l2 := rw2.length
    have he : us.toArray[i]? = none ∨ vs.toArray[i]? = none := hend.imp (fun q => by simp; omega) (fun q => by simp; omega)
    have hT : s.TypeIs (.ref z) "zip" := ⟨_, hz, rfl⟩
    unfold pyNext
    refine wpAny_bind (wpAny_attempt (wpAny_callSpecial?_slot (name := Str.ofString "__next__") hT F.slot_zip_next (wpAny_call_entry F.slot_zip_next hT F.entry_zip_next
      (zipW_end (within_tup (xs := us.toArray)) (within_list (xs := vs.toArray)) (I.ok.hd hc) D hz hTI hTO h1 h2 (show s.heap.IsTuple a us.toArray from p1) p2.isList he fun h' e hk he2 => ?_) (F.args_zip_next_1 _))))
    obtain ⟨o, ho, hc2⟩ := he2
    refine wpAny_bind (wpAny_isInstance (T := "StopIteration") (b := true) ⟨o, ho, hc2⟩ isSubtype_stop (wpAny_pure ⟨rfl, ?_⟩))
    refine I.turnedL (t' := s.toks) (ch := [z, TI, TO, i1, i2]) (fun c o hb q => ?_) hf
    simp only [List.mem_cons, List.not_mem_nil, or_false, not_or] at hb
    exact hk c o hb.1 hb.2.2.1 hb.2.2.2.1 hb.2.2.2.2 q
  self := fun A i s Q E st h => wpAny_pyIter_zip st.1 h
def iZipM (K : PySem.W.Frag) (ta : TA) : TI := fun σ H R => ta σ H fun vs H1 => ∃ a b xs ys, vs = [.ref a, .ref b] ∧ SqT K H1 a xs ∧ SqL K H1 b ys ∧ R (ItzM K a b) H1
theorem pi_zipM {X : Cx} {e e2 : Expr} {ta : TA} {p pos tpos : Pos} {elts : List Expr} {kk : Nat} (hg : Gl X "zip") (hm : X.mg "zip" = none) (ha : PA X [e, e2] ta)
    (hs : starEach [e, e2] X.env = (false, eval e X.env) :: starEach [e2] X.env := by rfl) (hpl : (backTo pos (starEach [e2] X.env)).any (·.1) = false := by rfl) :
    PI X (.Tuple elts kk tpos) (.Call (.Name "zip" p) [e, e2] [] pos) (iZipM X.K ta) := by
  refine ⟨fun pins s σ H R I h => ?_⟩
  refine Call_ (ld_blt I hg hm PyProof.Rows.boot_zip (PyProof.Rows.callWith_type1 (thn (ha.run pos pins s σ H _ I h) fun us s1 ⟨vs, H1, I1, r1, q1⟩ => ?_) hs hpl))
  obtain ⟨a, b, xs, ys, rfl, qx, qy, q⟩ := q1
  obtain ⟨u, v, rfl, ra, rb⟩ := Vals.two r1
  cases ra
  cases rb
  obtain ⟨its, rv, p1, _⟩ := I1.tuple qx
  obtain ⟨its2, rv2, p2, _⟩ := I1.list qy
  obtain ⟨o1, ho1, _⟩ := id p1
  have fresh5 : ∀ c, c ∈ [s1.heap.objs.size + 4, s1.heap.objs.size + 2, s1.heap.objs.size + 3, s1.heap.objs.size, s1.heap.objs.size + 1] → FpOk X pins H1 c := fun c hcm => by
    have hle : s1.heap.objs.size ≤ c := by
      simp only [List.mem_cons, List.not_mem_nil, or_false] at hcm
      rcases hcm with z | z | z | z | z
      · rw [z]; exact Nat.le_add_right _ _
      · rw [z]; exact Nat.le_add_right _ _
      · rw [z]; exact Nat.le_add_right _ _
      · rw [z]; exact Nat.le_refl _
      · rw [z]; exact Nat.le_add_right _ _
    exact I1.fpOk hle (I1.hok.fresh hle)
  refine call_zipM (show s1.heap.IsTuple a its.toArray from p1) p2.isList fun h' hz hTI hTO h1 h2 hk => wpAny_pyIter_zip hz ?_
  have I2 : Inv X pins σ H1 { s1 with heap := h' } := I1.kept (t' := s1.toks) hk
  exact ⟨s1.heap.objs.size + 4, [s1.heap.objs.size + 4, s1.heap.objs.size + 2, s1.heap.objs.size + 3, s1.heap.objs.size, s1.heap.objs.size + 1], _, _, H1, rfl, I2, turn_zipM (PySem.W.ktu_apart s1.heap.objs.size a b (Heap.lt_size ho1) p2.lt), ⟨hz, hTI, ⟨_, _, hTO⟩, h1, h2⟩, fresh5, q⟩
end My
set_option maxHeartbeats 2000000
/-! lists made over pairs; what a transversal is -/
namespace My
open PySem PySem.Spec PyProof.Rows L2 Evl Mm
theorem pi_zipB {X : Cx} {K : PySem.W.Frag} {e e2 : Expr} {ta : TA} {p pos tpos : Pos} {elts : List Expr} {kk : Nat} (h : X.K = K) (hg : Gl X "zip") (hm : X.mg "zip" = none) (ha : PA X [e, e2] ta)
    (hs : starEach [e, e2] X.env = (false, eval e X.env) :: starEach [e2] X.env := by rfl) (hpl : (backTo pos (starEach [e2] X.env)).any (·.1) = false := by rfl) :
    PI X (.Tuple elts kk tpos) (.Call (.Name "zip" p) [e, e2] [] pos) (iE2 (RZ.iZipA K ta) (iZipM K ta)) := h ▸ pi_2 (RZ.pi_zipA hg hm ha hs hpl) (pi_zipM hg hm ha hs hpl)
section
variable {K : PySem.W.Frag} {σ : L2.St} {H B : Hp} {t u ta tb tc te tl : TE} {x y z v : V} {D : Ends} {tz tu : TS}
theorem gets_zipT {t : Bool} {a b : Addr} {xs ys : List V} {ta : TA} (h : EvA ta σ H [.ref a, .ref b]) (hx : SqT K H a xs) (hy : seqW K t b ys H) : ∃ (J : It) (G : Hp → Prop), (∀ H1, Ex H H1 → Gets (iE2 (RZ.iZipA K ta) (iZipM K ta)) σ H1 J) ∧ Walk J (min xs.length ys.length) G (YPair (fun i => xs[i]?) (fun i => ys[i]?)) ∧ ∀ H', Ex H H' → G H' := by
  cases t with
  | true => exact ⟨_, _, fun H1 e R q => .inl (h H1 e _ fun H2 e2 => ⟨a, b, xs, ys, rfl, .inr ⟨ex_t (e.trans e2) hx, ex_t (e.trans e2) hy, q H2 e2⟩⟩), walk_zipT rfl, fun H' e => ⟨ex_t e hx, ex_t e hy⟩⟩
  | false => exact ⟨_, _, fun H1 e R q => .inr (h H1 e _ fun H2 e2 => ⟨a, b, xs, ys, rfl, ex_t (e.trans e2) hx, ex_l (e.trans e2) hy, q H2 e2⟩), walk_zipM rfl, fun H' e => ⟨ex_t e hx, ex_l e hy⟩⟩
/-- [e for x, y in zip(..)] -/
theorem el_lcP {wi : TI} {J : It} {n i j : Nat} {G : Hp → Prop} {xs ys : Nat → Option V} {vs : List Nat} (val : Nat → V) (h : ∀ H1, Ex H H1 → Gets wi σ H1 J) (w : Walk J n G (YPair xs ys)) (hG : ∀ H', Ex H H' → G H') (hn : n ≤ 40000) (hw : ∀ x y, wipe (((wipe σ vs).set i (some x)).set j (some y)) vs = wipe σ vs)
    (he : ∀ k x y H1, k < n → Ex H H1 → xs k = some x → ys k = some y → Ev te (((wipe σ vs).set i (some x)).set j (some y)) H1 (val k)) : EvL (tLc wi (gTup K 2 (gCons (gName i) (gCons (gName j) gNil))) tYes te vs) σ H ((List.range n).map val) := fun H0 e Q q =>
  lcW (h H0 e) w (fun D i H' => Cw H0 (fun _ => true) val D i H') (fun D H1 e1 hD => ⟨fresh_back e1 hD, e1.mut (fresh_back e1 hD), upd_same⟩) (fun D i H' _ p => hG _ (e.trans p.2.1))
    (fun D k x H' H2 hi p yy => by
      obtain ⟨T, x1, y1, rfl, nT, rfl, hx, hy⟩ := yy
      refine g_pair (st_of upd_same) ?_
      refine ⟨hw x1 y1, et_yes _ (Ex.refl _) _ fun H3 e3 => ?_⟩
      show te _ H3 _
      have eT : Ex H' (upd H' T (.tup [x1, y1])) := Ex.new nT
      have p3 : H3 D = some (.lst (given k (fun _ => true) val)) := (eT.trans e3) D _ p.2.2
      refine he k x1 y1 _ hi ((e.trans p.2.1).trans eT) hx hy H3 e3 _ fun H4 e4 => ⟨_, e4 D _ p3, sz_lt (by have := given_len k (fun _ => true) val; omega), p.1, (((p.2.1.trans eT).trans e3).trans e4).mut p.1, ?_⟩
      rw [given_yes (rfl : (fun _ => true) k = true)]
      exact upd_same)
    (fun D H' p => q D H' p.1 p.2.1 (by
      have h3 := p.2.2
      unfold given at h3
      rw [List.filter_eq_self.mpr (fun _ _ => rfl)] at h3
      exact h3))
theorem evd_sortedL {ns : List Int} (h : EvL te σ H (ns.map V.int)) (h64 : ns.length < 64) : EvD K (tCB (rSortedA K) (tCons te tNil)) σ H (.list (pints (srtI ns))) := fun H1 e Q q =>
  h H1 e _ fun b H2 nb e2 hb => ⟨b, ns, rfl, .inl (sq_of hb), h64, fun ms p h1 h2 hp => by
    rw [srtI_eq h1 h2]
    exact q (.ref p) _ (e2.trans (Ex.new hp)) (.lst (sq_of (by rw [nw_new (fresh_back e2 hp)]; exact upd_same)) (dpAll_ints _))⟩
theorem ev_anyL {bs : List Bool} (h : EvL te σ H (bs.map V.bl)) : Ev (tCB (rAny K) (tCons te tNil)) σ H (.bl (bs.any id)) := fun H1 e Q q => h H1 e _ fun b H2 nb e2 hb => ⟨b, bs, rfl, sq_of hb, q H2 e2⟩
theorem dp_rowS {t : Bool} {v : V} {ns : List Int} (h : Dp K H v (rowD t ns)) : ∃ b, v = .ref b ∧ seqW K t b (ns.map V.int) H := by
  cases t with
  | true => exact dp_rowT h
  | false => exact dp_rowL h
end
/-- the columns, row by row, are those of a transversal -/
def trB (n : Nat) (rows : List (List Int)) (cs : List Int) : Bool := cs.isPerm (iota n) && ((List.range n).map fun k => cel rows k (cs.getD k 0).toNat).isPerm (iota n)
end My
set_option maxHeartbeats 2000000
/-! rows that change: a list of lists, each its own -/
namespace My
open PySem PySem.Spec PyProof.Rows L2 Evl Mm
/-- new since H0: the list o of the lists bs, the rows R -/
structure RA (H0 H' : Hp) (o : Addr) (bs : List Addr) (R : List (List Int)) : Prop where
  ex : Ex H0 H'
  no : H0 o = none
  nb : ∀ b ∈ bs, H0 b = none
  is : H' o = some (.lst (bs.map V.ref))
  len : bs.length = R.length
  row : ∀ (i : Nat) (b : Addr), bs[i]? = some b → H' b = some (.lst ((R.getD i []).map V.int))
  nd : bs.Nodup
  ap : o ∉ bs
theorem RA.up {H0 H' H1 : Hp} {o : Addr} {bs : List Addr} {R : List (List Int)} (A : RA H0 H' o bs R) (e : Ex H' H1) : RA H0 H1 o bs R :=
  ⟨A.ex.trans e, A.no, A.nb, e o _ A.is, A.len, fun i b h => e b _ (A.row i b h), A.nd, A.ap⟩
theorem dpAll_rows {K : PySem.W.Frag} {H : Hp} : ∀ (bs : List Addr) (R : List (List Int)), bs.length = R.length → (∀ (i : Nat) (b : Addr), bs[i]? = some b → H b = some (.lst ((R.getD i []).map V.int))) → DpAll K H (bs.map V.ref) (R.map (rowD false))
  | [], [], _, _ => .nil
  | [], _ :: _, h, _ => by cases h
  | _ :: _, [], h, _ => by cases h
  | b :: bs, r :: R, h, hr => .cons (.lst (sq_of (hr 0 b rfl)) (dpAll_ints r)) (dpAll_rows bs R (Nat.succ.inj h) fun i c hc => hr (i + 1) c hc)
theorem RA.dp {K : PySem.W.Frag} {H0 H' : Hp} {o : Addr} {bs : List Addr} {R : List (List Int)} (A : RA H0 H' o bs R) : Dp K H' (.ref o) (sqrD false false R) := .lst (sq_of A.is) (dpAll_rows bs R A.len A.row)
theorem nd_inj {bs : List Addr} (h : bs.Nodup) {i j : Nat} {b : Addr} (hi : bs[i]? = some b) (hj : bs[j]? = some b) : i = j := by
  exact (List.getElem?_inj (List.getElem?_eq_some_iff.mp hi).1 h).mp (hi.trans hj.symm)
theorem erase_map {α β : Type} (f : α → β) : ∀ (l : List α) (r : Nat), (l.map f).eraseIdx r = (l.eraseIdx r).map f
  | [], _ => by simp
  | a :: l, 0 => rfl
  | a :: l, r + 1 => by show f a :: (l.map f).eraseIdx r = f a :: (l.eraseIdx r).map f; rw [erase_map f l r]
theorem seqI_nat {n i : Nat} (h : i < n) : seqIndex? (i : Int) n = some i := by
  unfold seqIndex?
  simp only []
  split <;> simp_all <;> omega
theorem getD_setR (R : List (List Int)) (r i : Nat) (x : List Int) : (R.set r x).getD i [] = if r = i ∧ i < R.length then x else R.getD i [] := by
  rw [List.getD_eq_getElem?_getD, List.getElem?_set, List.getD_eq_getElem?_getD]
  by_cases h : r = i
  · subst h
    by_cases h2 : r < R.length
    · rw [if_pos rfl, if_pos h2, if_pos ⟨rfl, h2⟩]; rfl
    · rw [if_pos rfl, if_neg h2, if_neg (fun z => h2 z.2), List.getElem?_eq_none (by omega)]
  · rw [if_neg h, if_neg (fun z => h z.1)]
/-- one row is another -/
theorem RA.setRow {H0 H' H1 : Hp} {o : Addr} {bs : List Addr} {R : List (List Int)} {r : Nat} {b : Addr} {row : List Int} (A : RA H0 H' o bs R) (e : Ex H' H1) (hb : bs[r]? = some b) : RA H0 (upd H1 b (.lst (row.map V.int))) o bs (R.set r row) := by
  have hm : b ∈ bs := List.mem_of_getElem? hb
  have hob : o ≠ b := fun z => A.ap (z ▸ hm)
  have hr : r < bs.length := (List.getElem?_eq_some_iff.mp hb).1
  refine ⟨(A.ex.trans e).mut (A.nb b hm), A.no, A.nb, by rw [upd_ne hob]; exact e o _ A.is, by rw [List.length_set]; exact A.len, fun i c hc => ?_, A.nd, A.ap⟩
  rw [getD_setR]
  by_cases h : r = i
  · subst h
    rw [hb] at hc
    cases hc
    rw [if_pos ⟨rfl, by have := A.len; omega⟩, upd_same]
  · rw [if_neg (fun z => h z.1), upd_ne (fun z : c = b => h (nd_inj A.nd hb (by rw [← z]; exact hc)))]
    exact e c _ (A.row i c hc)
/-- one row is a new list -/
theorem RA.newRow {H0 H' H1 : Hp} {o p : Addr} {bs : List Addr} {R : List (List Int)} {r : Nat} {row : List Int} (A : RA H0 H' o bs R) (e : Ex H' H1) (hr : r < bs.length) (np : H' p = none) (hp : H1 p = some (.lst (row.map V.int))) : RA H0 (upd H1 o (.lst ((bs.set r p).map V.ref))) o (bs.set r p) (R.set r row) := by
  have hpo : p ≠ o := fun z => by rw [z, A.is] at np; cases np
  have hpb : p ∉ bs := fun z => by
    obtain ⟨i, hi, h2⟩ := List.mem_iff_getElem.mp z
    have := A.row i p (by rw [List.getElem?_eq_getElem hi, h2])
    rw [this] at np; cases np
  have mem : ∀ c, c ∈ bs.set r p → c = p ∨ c ∈ bs := fun c hc => by
    rcases List.mem_or_eq_of_mem_set hc with h | h
    · exact .inr h
    · exact .inl h
  refine ⟨(A.ex.trans e).mut A.no, A.no, fun c hc => ?_, upd_same, by rw [List.length_set, List.length_set]; exact A.len, fun i c hc => ?_, ?_, fun z => ?_⟩
  · rcases mem c hc with rfl | h
    · exact fresh_back A.ex np
    · exact A.nb c h
  · have hco : c ≠ o := fun z => by
      rcases mem c (List.mem_of_getElem? hc) with h | h
      · exact hpo (h.symm.trans z)
      · exact A.ap (z ▸ h)
    rw [upd_ne hco, getD_setR]
    rw [List.getElem?_set] at hc
    by_cases h : r = i
    · subst h
      rw [if_pos rfl, if_pos hr] at hc
      cases hc
      rw [if_pos ⟨rfl, by have := A.len; omega⟩]; exact hp
    · rw [if_neg h] at hc
      rw [if_neg (fun z => h z.1)]
      exact e c _ (A.row i c hc)
  · refine List.pairwise_iff_getElem.mpr fun i j hi hj hij hh => ?_
    rw [List.length_set] at hi hj
    rw [List.getElem_set, List.getElem_set] at hh
    by_cases h1 : r = i
    · rw [if_pos h1, if_neg (by omega)] at hh
      exact hpb (hh ▸ List.getElem_mem _)
    · rw [if_neg h1] at hh
      by_cases h2 : r = j
      · rw [if_pos h2] at hh
        exact hpb (hh ▸ List.getElem_mem _)
      · rw [if_neg h2] at hh
        have := nd_inj A.nd (List.getElem?_eq_getElem hi) ((List.getElem?_eq_getElem hj).trans (congrArg some hh.symm))
        omega
  · rcases mem o z with h | h
    · exact hpo h.symm
    · exact A.ap h
/-- a row is left out -/
theorem RA.popRow {K : PySem.W.Frag} {H0 H' H1 : Hp} {o : Addr} {bs : List Addr} {R : List (List Int)} {r : Nat} (A : RA H0 H' o bs R) (e : Ex H' H1) : Dp K (upd H1 o (.lst ((bs.map V.ref).eraseIdx r))) (.ref o) (sqrD false false (R.eraseIdx r)) := by
  have hz : DpAll K (upd H1 o (.lst ((bs.map V.ref).eraseIdx r))) ((bs.eraseIdx r).map V.ref) ((R.eraseIdx r).map (rowD false)) := by
    refine dpAll_rows _ _ (by have := A.len; rw [List.length_eraseIdx, List.length_eraseIdx, this]) fun i c hc => ?_
    have hm : c ∈ bs := List.mem_of_mem_eraseIdx (List.mem_of_getElem? hc)
    rw [upd_ne (fun z : c = o => A.ap (by rw [← z]; exact hm)), List.getD_eq_getElem?_getD, List.getElem?_eraseIdx]
    rw [List.getElem?_eraseIdx] at hc
    by_cases h : i < r
    · rw [if_pos h] at hc ⊢
      rw [← List.getD_eq_getElem?_getD]
      exact e c _ (A.row i c hc)
    · rw [if_neg h] at hc ⊢
      rw [← List.getD_eq_getElem?_getD]
      exact e c _ (A.row (i + 1) c hc)
  refine .lst (sq_of ?_) hz
  rw [upd_same, erase_map]
theorem RA.popEx {H0 H' H1 : Hp} {o : Addr} {bs : List Addr} {R : List (List Int)} {u : HO} (A : RA H0 H' o bs R) (e : Ex H' H1) : Ex H0 (upd H1 o u) := (A.ex.trans e).mut A.no
section
variable {K : PySem.W.Frag} {σ : L2.St} {H : Hp} {ta tb tc te tl : TE} {x y v : V} {D : Ends} {tz : TS}
/-- [list(row) for row in rows], as lists of their own -/
theorem q_rows {a : Addr} {rows : List (List Int)} {i j : Nat} {vs : List Nat} (h : Ev tl σ H (.ref a)) (hd : Dp K H (.ref a) (sqrD true true rows)) (hn : rows.length ≤ 12) (hj : ∀ x, ((wipe σ vs).set j (some x))[j]? = some (some x)) (hw : ∀ x, wipe ((wipe σ vs).set j (some x)) vs = wipe σ vs)
    (k : ∀ o bs H1, RA H H1 o bs rows → tz D (σ.set i (some (.ref o))) H1) : tSeq (tAsg (tLc (iTup K tl) (gName j) tYes (tLstO K (tVar j)) vs) (gName i)) tz D σ H := by
  obtain ⟨us, hus, hds⟩ := dp_tupE hd
  have hul : us.length = rows.length := by rw [dpAll_len _ _ hds, List.length_map]
  show tLc (iTup K tl) (gName j) tYes (tLstO K (tVar j)) vs σ H fun x H1 => tz D (σ.set i (some x)) H1
  refine lcW (gets_tup h hus) (walk_tup (xs := us)) (fun D m H' => ∃ bs : List Addr, Ex H H' ∧ H D = none ∧ H' D = some (.lst (bs.map V.ref)) ∧ bs.length = m ∧ (∀ (j : Nat) (b : Addr), bs[j]? = some b → H' b = some (.lst ((rows.getD j []).map V.int)) ∧ H b = none) ∧ bs.Nodup ∧ D ∉ bs) (fun D H1 e1 hD => ?_) (fun D m H' _ p => ?_) (fun D m x H' H2 hm p yy => ?_) (fun D H' p => ?_)
  · exact ⟨[], e1.mut (fresh_back e1 hD), fresh_back e1 hD, upd_same, rfl, fun j b h => by simp at h, List.nodup_nil, List.not_mem_nil⟩
  · obtain ⟨bs, e, _⟩ := p; exact ex_t e hus
  · obtain ⟨bs, e, hD0, hD, hl, hr, nd, nD⟩ := p
    obtain ⟨rfl, hx⟩ := yy
    refine ⟨hw x, et_yes _ (Ex.refl _) _ fun H3 e3 => ?_⟩
    rw [if_pos rfl]
    obtain ⟨d, h1, h2⟩ := dpAll_get _ _ _ _ hds hx
    rw [rows_get (i := true) (by omega)] at h1
    cases h1
    obtain ⟨b, rfl, hb⟩ := dp_rowT h2
    refine el_listOf (ev_var (hj _)) (.inr (ex_t (e.trans e3) hb)) H3 (Ex.refl _) _ fun p H4 np e4 hp => ?_
    have hD4 := e4 D _ (e3 D _ hD)
    have pD : p ≠ D := fun z => by rw [z, e3 D _ hD] at np; cases np
    have pb : p ∉ bs := fun z => by
      obtain ⟨q, hq, h5⟩ := List.mem_iff_getElem.mp z
      have := (hr q p (by rw [List.getElem?_eq_getElem hq, h5])).1
      rw [e3 p _ this] at np; cases np
    refine ⟨_, hD4, sz_lt (by rw [List.length_map]; omega), bs ++ [p], ((e.trans e3).trans e4).mut hD0, hD0, by rw [upd_same, List.map_append]; rfl, by rw [List.length_append, hl]; rfl, fun q c hc => ?_, ?_, fun z => ?_⟩
    · have hcD : c ≠ D := fun z => by
        rcases List.mem_append.mp (List.mem_of_getElem? hc) with h | h
        · exact nD (z ▸ h)
        · exact pD ((List.mem_singleton.mp h).symm.trans z)
      rw [upd_ne hcD]
      by_cases hq : q < bs.length
      · rw [List.getElem?_append_left hq] at hc
        obtain ⟨h5, h6⟩ := hr q c hc
        exact ⟨e4 c _ (e3 c _ h5), h6⟩
      · rw [List.getElem?_append_right (by omega)] at hc
        have hq0 : q - bs.length = 0 := by
          have := (List.getElem?_eq_some_iff.mp hc).1
          simp at this; omega
        rw [hq0] at hc
        cases hc
        have : q = m := by omega
        rw [this]
        exact ⟨hp, fresh_back (e.trans e3) np⟩
    · rw [List.nodup_append]
      exact ⟨nd, List.nodup_cons.mpr ⟨List.not_mem_nil, List.nodup_nil⟩, fun a ha b hb2 hab => pb (by rw [List.mem_singleton] at hb2; rw [← hb2, ← hab]; exact ha)⟩
    · rcases List.mem_append.mp z with h | h
      · exact nD h
      · exact pD (List.mem_singleton.mp h).symm
  · obtain ⟨bs, e, hD0, hD, hl, hr, nd, nD⟩ := p
    exact k D bs H' ⟨e, hD0, fun b hb => by
      obtain ⟨q, hq, h5⟩ := List.mem_iff_getElem.mp hb
      exact (hr q b (by rw [List.getElem?_eq_getElem hq, h5])).2, hD, by rw [hl, hul], fun q b hb => (hr q b hb).1, nd, nD⟩
/-- xs[i], xs[j] = xs[j], xs[i] of a list that an expression gives -/
theorem s_swapG {l : Addr} {xs : List V} {i j : Nat} {a b : V} {t1 t2 t3 t4 : TE} (hl : H l = some (.lst xs)) (h1 : Ev t1 σ H b) (h2 : Ev t2 σ H a) (ho : Ev ta σ H (.ref l)) (hi : ∀ H1, Ev tb σ H1 (.int (i : Int))) (ho2 : ∀ H1, Ex H H1 → Ev t3 σ (upd H1 l (.lst (xs.set i b))) (.ref l)) (hj : ∀ H1, Ev t4 σ H1 (.int (j : Int))) (hi2 : i < xs.length) (hj2 : j < xs.length)
    (k : ∀ H1, Ex H H1 → D.nx σ (upd H1 l (.lst ((xs.set i b).set j a)))) :
    tAsg (tTup (tCons t1 (tCons t2 tNil))) (gTup K 2 (gCons (gSub ta tb rSetL) (gCons (gSub t3 t4 rSetL) gNil))) D σ H :=
  h1 H (Ex.refl H) _ fun H1 e1 => h2 H1 e1 _ fun H2 e2 => ⟨sz_of (by show 2 ≤ 100000; decide), fun p hp => by
    have e12 := e1.trans e2
    refine ⟨p, [b, a], rfl, st_of upd_same, rfl, b, [a], rfl, ?_⟩
    refine ho _ (e12.trans (Ex.new hp)) _ fun H3 e3 => hi _ _ (Ex.refl _) _ fun H4 e4 => ?_
    have e04 : Ex H H4 := ((e12.trans (Ex.new hp)).trans e3).trans e4
    refine ⟨l, xs, (i : Int), i, rfl, rfl, e04 l _ hl, ixN_nat hi2, a, [], rfl, ?_⟩
    refine ho2 H4 e04 _ (Ex.refl _) _ fun H5 e5 => hj _ _ (Ex.refl _) _ fun H6 e6 => ?_
    have h6 : H6 l = some (.lst (xs.set i b)) := (e5.trans e6) l _ upd_same
    refine ⟨l, xs.set i b, (j : Int), j, rfl, rfl, h6, ixN_nat (by rw [List.length_set]; exact hj2), rfl, ?_⟩
    have e7 : Ex H (fun c => if c = l then some (.lst xs) else H6 c) := fun c o hc => by
      show (if c = l then _ else _) = _
      by_cases hz : c = l
      · rw [if_pos hz, ← hl, ← hz]; exact hc
      · rw [if_neg hz]
        refine (e5.trans e6) c o ?_
        rw [upd_ne hz]; exact e04 c o hc
    have e8 : upd H6 l (.lst ((xs.set i b).set j a)) = upd (fun c => if c = l then some (.lst xs) else H6 c) l (.lst ((xs.set i b).set j a)) := by
      funext c
      unfold upd
      by_cases hz : c = l
      · rw [if_pos hz, if_pos hz]
      · rw [if_neg hz, if_neg hz]
        show H6 c = if c = l then some (HO.lst xs) else H6 c
        rw [if_neg hz]
    rw [e8]
    exact k _ e7⟩
/-- o[i] = a new list -/
theorem s_setLL {l : Addr} {xs ys : List V} {j : Nat} (hl : H l = some (.lst xs)) (h : EvL te σ H ys) (ho : Ev ta σ H (.ref l)) (hi : Ev tb σ H (.int (j : Int))) (hj : j < xs.length) (k : ∀ p H1, H p = none → Ex H H1 → H1 p = some (.lst ys) → D.nx σ (upd H1 l (.lst (xs.set j (.ref p))))) :
    tAsg te (gSub ta tb rSetL) D σ H := h H (Ex.refl H) _ fun p H1 np e1 hp => ho H1 e1 _ fun H2 e2 => hi H2 (e1.trans e2) _ fun H3 e3 =>
  ⟨l, xs, (j : Int), j, rfl, rfl, ((e1.trans e2).trans e3) l _ hl, ixN_nat hj, k p H3 np ((e1.trans e2).trans e3) ((e2.trans e3) p _ hp)⟩
/-- xs.pop(i) -/
theorem s_popI {l : Addr} {xs : List V} {i : Nat} {z : V} (hl : H l = some (.lst xs)) (ha : Ev ta σ H (.ref l)) (hi : Ev tb σ H (.int (i : Int))) (hz : xs[i]? = some z) (hs : i < 100000) (k : ∀ H1, Ex H H1 → D.nx σ (upd H1 l (.lst (xs.eraseIdx i)))) : tDrop (tBM K "list" rPopAt ta (tCons tb tNil)) D σ H := ha H (Ex.refl H) _ fun H1 e1 =>
  ⟨Or.inl ⟨rfl, xs, sq_of (e1 l _ hl)⟩, hi H1 e1 _ fun H2 e2 => ⟨l, xs, (i : Int), i, z, rfl, rfl, (e1.trans e2) l _ hl, by omega, by omega, seqI_nat (List.getElem?_eq_some_iff.mp hz).1, hz, k H2 (e1.trans e2)⟩⟩
end
/-! ### how long rows are when shown -/
def BndRow (r : List Int) : Prop := r.length ≤ 13 ∧ ∀ x ∈ r, x.natAbs < 2 ^ 64
def BndR (R : List (List Int)) : Prop := R.length ≤ 13 ∧ ∀ r ∈ R, r.length ≤ 13 ∧ ∀ x ∈ r, x.natAbs < 2 ^ 64
theorem shown_rows : ∀ R : List (List Int), (∀ r ∈ R, r.length ≤ 13 ∧ ∀ x ∈ r, x.natAbs < 2 ^ 64) → ((PyData.shownAll (R.map (rowD false))).map (·.length)).sum ≤ 2000 * R.length ∧ (PyData.shownAll (R.map (rowD false))).length = R.length
  | [], _ => ⟨Nat.le_refl _, rfl⟩
  | r :: R, h => by
    have ih := shown_rows R fun x hx => h x (List.mem_cons_of_mem _ hx)
    have hr := h r (List.mem_cons_self ..)
    have h1 := shown_len r hr.2
    have h2 : (PyData.shown (rowD false r)).length ≤ 2000 := by
      have h3 := listText_len_le (PyData.shownAll (pints r))
      show (listText (PyData.shownAll (pints r))).length ≤ 2000
      omega
    show ((PyData.shown (rowD false r) :: PyData.shownAll (R.map (rowD false))).map (·.length)).sum ≤ 2000 * (R.length + 1) ∧ (PyData.shownAll (R.map (rowD false))).length + 1 = R.length + 1
    rw [List.map_cons, List.sum_cons]
    omega
theorem showAll_rows : ∀ R : List (List Int), (∀ r ∈ R, r.length ≤ 13 ∧ ∀ x ∈ r, x.natAbs < 2 ^ 64) → PyData.showableAll (R.map (rowD false)) = true
  | [], _ => rfl
  | r :: R, h => by
    have ih := showAll_rows R fun x hx => h x (List.mem_cons_of_mem _ hx)
    have h1 : PyData.showable (rowD false r) = true := showAll_ints r (h r (List.mem_cons_self ..)).2
    show (PyData.showable (rowD false r) && PyData.showableAll (R.map (rowD false))) = true
    rw [h1, ih]; rfl
theorem dictAll_rows : ∀ R : List (List Int), PyData.hasDictAll (R.map (rowD false)) = false
  | [] => rfl
  | r :: R => by
    have ih := dictAll_rows R
    have h1 : PyData.hasDict (rowD false r) = false := dictAll_ints r
    show (PyData.hasDict (rowD false r) || PyData.hasDictAll (R.map (rowD false))) = false
    rw [h1, ih]; rfl
section
variable {K : PySem.W.Frag} {σ : L2.St} {H : Hp} {te : TE} {x : V}
theorem ev_reprR {R : List (List Int)} (h : Ev te σ H x) (hd : Dp K H x (sqrD false false R)) (hR : BndR R) : Ev (tCB (rRepr K) (tCons te tNil)) σ H (.str (PyData.shown (sqrD false false R))) := by
  refine ev_repr (ea_cons h ea_nil) (fun H1 e => dp_mono e _ _ hd) (showAll_rows R hR.2) (dictAll_rows R) ?_ ?_
  · have : ∀ r, (rowD false r).depth = 1 := fun r => depth_ints r
    have h2 : PyData.depthAll (R.map (rowD false)) ≤ 1 := depthAll_le fun d hd => by obtain ⟨r, _, rfl⟩ := List.mem_map.mp hd; rw [this]; exact Nat.le_refl _
    show PyData.depthAll (R.map (rowD false)) + 1 ≤ 60
    omega
  · have h1 := shown_rows R hR.2
    have h2 := listText_len_le (PyData.shownAll (R.map (rowD false)))
    show (listText (PyData.shownAll (R.map (rowD false)))).length ≤ sizeLine
    refine Nat.le_trans h2 (Nat.le_trans (m := 103003) ?_ (by decide))
    have := hR.1
    omega
end
theorem bnd_set {R : List (List Int)} {r : Nat} {row : List Int} (h : BndR R) (hr : BndRow row) : BndR (R.set r row) :=
  ⟨by rw [List.length_set]; exact h.1, fun x hx => (List.mem_or_eq_of_mem_set hx).elim (h.2 x) fun e => e ▸ hr⟩
theorem bnd_erase {R : List (List Int)} {r : Nat} (h : BndR R) : BndR (R.eraseIdx r) :=
  ⟨Nat.le_trans (List.length_eraseIdx_le ..) h.1, fun x hx => h.2 x (List.mem_of_mem_eraseIdx hx)⟩
theorem row_set {r : List Int} {i : Nat} {v : Int} (h : BndRow r) (hv : v.natAbs < 2 ^ 64) : BndRow (r.set i v) :=
  ⟨by rw [List.length_set]; exact h.1, fun x hx => (List.mem_or_eq_of_mem_set hx).elim (h.2 x) fun e => e ▸ hv⟩
theorem row_erase {r : List Int} {i : Nat} (h : BndRow r) : BndRow (r.eraseIdx i) :=
  ⟨Nat.le_trans (List.length_eraseIdx_le ..) h.1, fun x hx => h.2 x (List.mem_of_mem_eraseIdx hx)⟩
theorem row_snoc {r : List Int} {v : Int} (h : BndRow r) (hl : r.length ≤ 12) (hv : v.natAbs < 2 ^ 64) : BndRow (r ++ [v]) :=
  ⟨by rw [List.length_append]; show r.length + 1 ≤ 13; omega, fun x hx => (List.mem_append.mp hx).elim (h.2 x) fun e => by rw [List.mem_singleton.mp e]; exact hv⟩
theorem bnd_lat {n : Nat} {R : List (List Int)} (L : Lat n R) (h : n ≤ 12) : BndR R := by
  refine ⟨by have := L.len; omega, fun r hr => ?_⟩
  obtain ⟨j, hj, rfl⟩ := List.mem_iff_getElem.mp hr
  have hl := L.len
  have hp := L.row j (by omega)
  rw [List.getD_eq_getElem?_getD, List.getElem?_eq_getElem hj] at hp
  have hp2 : (R[j]).Perm (iota n) := hp
  have hq := hp2.length_eq.trans (iota_len n)
  exact ⟨by omega, fun x hx => by have := iota_mem.mp (hp2.mem_iff.mp hx); omega⟩
theorem bnd_at {R : List (List Int)} {r : Nat} (h : BndR R) (hr : r < R.length) : BndRow (R.getD r []) := by
  rw [List.getD_eq_getElem?_getD, List.getElem?_eq_getElem hr]; exact h.2 _ (List.getElem_mem _)
theorem bnd_mk {n : Nat} {F : Nat → Nat → Int} (hn : n ≤ 13) (hF : ∀ r c, (F r c).natAbs < 2 ^ 64) : BndR (mkRows n F) := by
  refine ⟨by rw [mk_len]; exact hn, fun r hr => ?_⟩
  unfold mkRows at hr
  obtain ⟨i, _, rfl⟩ := List.mem_map.mp hr
  refine ⟨by rw [List.length_map, List.length_range]; exact hn, fun x hx => ?_⟩
  obtain ⟨c, _, rfl⟩ := List.mem_map.mp hx
  exact hF i c
/-- what a row by row look at the columns says is what the columns alone say -/
theorem want_eq {n m : Nat} {rows : List (List Int)} {cs : List Int} (hl : cs.length ≤ n) (hm : m = min n cs.length) :
    (cs.isPerm (iota n) && (((List.range m).filter fun k => decide (cs.getD k 0 < n)).map fun k => cel rows k (cs.getD k 0).toNat).isPerm (iota n)) = trB n rows cs := by
  unfold trB
  cases hp : cs.isPerm (iota n) with
  | false => rfl
  | true =>
    have hP := List.isPerm_iff.mp hp
    have hcn := hP.length_eq.trans (iota_len n)
    have hmn : m = n := by omega
    subst hmn
    rw [List.filter_eq_self.mpr fun k hk => decide_eq_true (perm_in hP (List.mem_range.mp hk)).2]
end My
set_option maxHeartbeats 2000000
/-! own errors over an own class: the class above is asked for its __init__ by name -/
namespace My
open PySem PySem.Spec PyProof.Rows L2 Evl Mm
/-- what an own class M of errors without __init__ says of its own, when asked by name -/
structure OwnUp (K : PySem.W.Frag) (mg : Str → Option Value) (x : Str) (M : Addr) : Prop where
  gM : mg x = some (.ref M)
  ga : PySem.W.specialIn K (.ref M) "__getattribute__" = some (some (.builtin "type.__getattribute__"))
  rd : PySem.W.readsIn K M (.type "type") = true
  fd : PySem.W.findCls K (.ref M) (.type "type") "__init__" = some (.val (.builtin "ValueError.__init__"))
theorem pe_upinit {X : Cx} {x : Str} {M : Addr} {e : Expr} {es : List Expr} {ta : TA} {p1 p2 pos : Pos} {pl : Sem Bool} (U : OwnUp X.K X.mg x M) (hg : Gl X x) (ha : PA X (e :: es) ta) (hd : (x == ("__debug__" : Str)) = false := by decide)
    (hc : eval (.Call (.Attribute (.Name x p1) "__init__" p2) (e :: es) [] pos) X.env = (do
      let ov ← eval (.Name x p1) X.env
      standAt p2.atName
      let (f, first) ← holding [ov] (getMethod ov "__init__" pl)
      callWith pos f first (backTo pos (starEach (e :: es) X.env)) (backToKw pos (keywordEach [] X.env))) := by rfl)
    (he : starEach (e :: es) X.env = (false, eval e X.env) :: starEach es X.env := by rfl) (hpl : (backTo pos (starEach es X.env)).any (·.1) = false := by rfl) :
    PE X (.Call (.Attribute (.Name x p1) "__init__" p2) (e :: es) [] pos) (tVeI X.K ta) := by
  refine ⟨fun pins s σ H Q I h => ?_⟩
  refine PySem.W.methodCall_KW (ld_glob I hg U.gM ?_ hd) hc
  refine PySem.W.method_cls I.kIn U.ga (PySem.W.cls_value I.kIn U.rd U.fd (by decide +kernel) ?_)
  show wpAny _ _ (callWith pos (Value.builtin "ValueError.__init__") [] (backTo pos (starEach (e :: es) X.env)) []) _ _ _
  refine PyProof.Rows.callWith_method1 (thn (ha.run pos pins _ σ H _ (I.tok _) h) fun us s1 ⟨vs, H1, I1, r1, a, C, ws, ev, hl, T, ea, q⟩ => ?_) he hpl
  subst ev
  cases r1 with
  | @cons _ u0 _ ur ra rw' =>
    obtain rfl : u0 = Value.ref a := ra
    exact oinit_ok T I1 ea (by rw [← Paired.length rw', sizeLine_eq]; omega) fun s' J => ⟨.non, H1, J, rfl, q⟩
/-- the def __init__ of an own class of errors -/
structure DiE (K : PySem.W.Frag) (mg : Str → Option Value) (x qual : Str) (C : Addr) (st : Stmt) (ps : List Str) : Prop where
  ex : ∃ f fd, Fun K "__init__" qual st f fd ∧ PySem.W.findIn K (.ref C) "__init__" = some (some (.ref f)) ∧ PySem.W.typeIn K (.ref f) = some (.type "function") ∧ mg x = some (.ref C) ∧ Binds K fd ps [] ∧ OexC K C
structure CmE (P : Program) (w : World) (K : PySem.W.Frag) (mg : Str → Option Value) (base : Heap) (k : Nat) (x : Str) (C : Addr) (sp : Sp) : Prop where
  ex : ∃ (f : Addr) (fd : FuncData) (ps : List Str), FnOk P w K mg base L2.CX0 k f fd ps sp ∧ PySem.W.findIn K (.ref C) "__init__" = some (some (.ref f)) ∧ PySem.W.typeIn K (.ref f) = some (.type "function") ∧ mg x = some (.ref C) ∧ Binds K fd ps [] ∧ OexC K C
theorem DiE.ok {P : Program} {w : World} {K : PySem.W.Frag} {mg : Str → Option Value} {base : Heap} {x qual : Str} {C : Addr} {st : Stmt} {N ps : List Str} {k : Nat} {sp : Sp} (D : DiE K mg x qual C st ps) (S : FnScope N ps (defScope st)) (len : ∀ vs H Q E, sp vs H Q E → vs.length = ps.length)
    (hbody : ∀ (f : Addr) (cdv : Value) (A : Around) (outer : List Env) (s : Shared) (H : Hp) (vs : List V) (Q : VK) (E : XK), Room k (A.deeper (envOfC qual (defScope st) s.heap.objs.size f cdv)) → sp vs H Q E →
      ∃ t, PSs (cxOf L2.CX0 P w K mg base N qual (defScope st) f cdv A outer s H E).nox (defBody st) t ∧ t { nx := fun _ H' => Q .non H', rt := Q } (start N vs) H) : CmE P w K mg base (k + 1) x C sp := by
  obtain ⟨f, fd, F, h1, h2, h3, h4, h5⟩ := D.ex
  refine ⟨f, fd, ps, F.ok S len fun cdv A outer s H vs Q E hr hsp => ?_, h1, h2, h3, h4, h5⟩
  exact hbody f cdv A outer s H vs Q E hr hsp
theorem pmk_E {X : Cx} {k : Nat} {x : Str} {C : Addr} {sp : Sp} {e : Expr} {es : List Expr} {ta : TA} {p pos : Pos} (c : CmE X.prog X.w X.K X.mg X.base k x C sp) (hr : Room (k + 1) X.A) (hg : Gl X x) (ha : PA X (e :: es) ta)
    (hdb : (x == ("__debug__" : Str)) = false := by decide) (he : starEach (e :: es) X.env = (false, eval e X.env) :: starEach es X.env := by rfl) (hpl : (backTo pos (starEach es X.env)).any (·.1) = false := by rfl) :
    PMk X (.Call (.Name x p) (e :: es) [] pos) (tMkO C sp [] ta) := by
  obtain ⟨f, fd, ps, F, h1, h2, h3, h4, h5⟩ := c.ex
  exact pmk_oex h5 h1 h2 F hr h4 .nil pass0 hg h3 ha hdb he hpl
/-- a new error of the class C with the int n as its field f -/
def spErr1 (K : PySem.W.Frag) (C : Addr) (f : Str) : Sp := fun vs H Q _ => ∃ (a : Addr) (n : Int), vs = [.ref a, .int n] ∧ OexC K C ∧ PySem.W.findIn K (.ref C) f = some none ∧ H a = some (exo a C none) ∧ n.natAbs < 2 ^ 1000 ∧ ∀ dx, H dx = none → dx ≠ a → Q .non (upd (upd H dx (exd dx [(f, .int n)])) a (exo a C (some dx)))
theorem mk_err1 {K : PySem.W.Frag} {σ : L2.St} {H : Hp} {C : Addr} {f : Str} {n : Int} {ta : TA} {Q : XK} (h : EvA ta σ H [.int n]) (O : OexC K C) (hno : PySem.W.findIn K (.ref C) f = some none) (hn : n.natAbs < 2 ^ 1000) (k : ∀ d H', Ex H H' → H' d = some (.xd [(f, .int n)]) → Q (.ref C) (some d) H') : tMkO C (spErr1 K C f) [] ta σ H Q :=
  h H (Ex.refl H) _ fun H1 e1 => ⟨by show 1 ≤ 1000; decide, fun a na => ⟨a, n, rfl, O, hno, upd_same, hn, fun dx ndx dxa => by
    have nd : H1 dx = none := by rw [upd_ne dxa] at ndx; exact ndx
    refine ⟨rfl, dx, [(f, .int n)], upd_same, by rw [upd_ne dxa, upd_same], nd, k dx _ (fun b u hb => ?_) upd_same⟩
    have hb1 := e1 b u hb
    have hba : b ≠ a := fun z => by rw [z, na] at hb1; cases hb1
    have hbd : b ≠ dx := fun z => by rw [z, nd] at hb1; cases hb1
    rw [upd_ne hbd, del_ne hba, upd_ne hba, upd_ne hbd, upd_ne hba]
    exact hb1⟩⟩
/-- the def itself: Up.__init__(self, f"..{x}"), self.f = x -/
theorem err1_body {K : PySem.W.Frag} {C : Addr} {f t0 : Str} {n : Int} {a : Addr} {H : Hp} {Q : VK} (O : OexC K C) (hno : PySem.W.findIn K (.ref C) f = some none) (ha : H a = some (exo a C none)) (hn : n.natAbs < 2 ^ 1000) (h0 : t0.length ≤ 1000)
    (q : ∀ dx, H dx = none → dx ≠ a → Q .non (upd (upd H dx (exd dx [(f, .int n)])) a (exo a C (some dx)))) :
    tSeq (tDrop (tVeI K (tCons (tVar 0) (tCons (fun σ H Q => tJs [tC (.str t0), tFmt (tVar 1)] Str.empty σ H fun out H1 => Q (.str out) H1) tNil)))) (tOst K f (tVar 0) (tVar 1)) { nx := fun _ H' => Q .non H', rt := Q } [some (.ref a), some (.int n)] H := by
  have hl : (Str.empty ++ t0).length ≤ 1000 := by
    rw [strLen_append]; show 0 + _ ≤ _; omega
  have hi := int_text_length_le (k := 1000) (by decide) (PySem.Flt.log2_lt_of (by decide) hn)
  have hi2 : (toString n : Str).length ≤ 1001 := by rw [PySem.ofString_length]; exact hi
  refine ⟨.ref a, rfl, ?_⟩
  refine ⟨t0, rfl, Nat.le_trans hl (by decide), .int n, rfl, .inr ⟨n, rfl, PySem.Flt.log2_lt_of (by decide) (Nat.lt_of_lt_of_le hn (by decide)), toString n, rfl, ?_, a, C, _, rfl, by show 1 ≤ 1000; decide, O, ha, ?_⟩⟩
  · rw [strLen_append]
    exact Nat.le_trans (Nat.add_le_add hl hi2) (by decide)
  · refine ⟨.int n, rfl, .ref a, rfl, a, C, rfl, O, hno, .inl ⟨ha, fun dx n1 n2 => q dx n1 n2⟩⟩
end My
set_option maxHeartbeats 2000000
/-! a caught error with a field: what it is, its field -/
namespace My
open PySem PySem.W PySem.Spec PyProof.Rows
/-- of a value whose type is known to lie below a class: isinstance says yes, and nothing else is asked -/
theorem isa_ans {K : Frag} {x t c : Value} (hne : (t == c) = false) (e : kitCls K t c = some true) : Answers (fun s => K.In s.heap ∧ ∀ M : Model, Looks M s.heap (typeOf x) t) x c true := by
  intro dep tk prog w A R s hs
  obtain ⟨hp, g, d, n, os⟩ := s
  obtain ⟨⟨X, LT⟩, hq⟩ := hs
  have L0 := LT (model prog w)
  obtain ⟨hty, his, hsub⟩ := kit_cls (M := model prog w) X e
  unfold Builtin.«isinstance.nested»
  refine wpAny_bind (L0.at ?_)
  rw [hne, if_neg Bool.false_ne_true]
  refine wpAny_bind (hty.at ?_)
  rw [if_pos (by decide)]
  k_delta "plainIsInstance"
  refine wpAny_bind (wpAny_bind (his.at ?_))
  simp only [Bool.not_true, Bool.false_eq_true, if_false]
  refine wpAny_bind ((L0.andThen hsub).at ?_)
  simp only [if_true]
  first
    | exact wpAny_pure (wpAny_pure (hq n))
    | exact wpAny_pure (hq n)
    | exact wpAny_bind (wpAny_pure (wpAny_pure (hq n)))
theorem isa_yes {prog : Program} {w : World} {A : Around} {E : Value → Shared → Prop} {s : Shared} {Q : Value → Shared → Prop} {K : Frag} {x : Addr} {t c : Value} (hne : (t == c) = false) (e : kitCls K t c = some true) (X : K.In s.heap) (LT : ∀ M : Model, Looks M s.heap (typeOf (.ref x)) t) (h : ∀ tk, Q (.bool true) { s with toks := tk }) :
    wpAny (model prog w) A (call (.builtin "isinstance") [.ref x, c]) Q E s :=
  call_isinstance (S := fun _ R s => (K.In s.heap ∧ ∀ M : Model, Looks M s.heap (typeOf (.ref x)) t) ∧ ∀ tk, R (.ok (.ret (.bool true))) { s with toks := tk })
    (fun prog w A R s hs => isinstance_outer (isa_ans hne e 0 _ prog w A R s hs) (fun z => nomatch z)) ⟨⟨X, LT⟩, h⟩
end My
namespace My
open PySem PySem.Spec PyProof.Rows L2 Evl Mm
/-- isinstance(e, c), e the error that the suite holds, of the class D; c is above D -/
def rIsY (K : PySem.W.Frag) (D a : Addr) : List V → Hp → VK → Prop := fun xs H Q => ∃ (c : V) (cv : Value), xs = [.ref a, c] ∧ (∀ u, RelV c u → u = cv) ∧ (Value.ref D == cv) = false ∧ PySem.W.kitCls K (.ref D) cv = some true ∧ Q (.bl true) H
theorem call_isY {X : Cx} {a D : Addr} {oe : Obj} {pn : List (Addr × Obj)} (hz : oe.cls = .ref D) : CallR (X.suite a ((a, oe) :: pn)) (.builtin "isinstance") (rIsY X.K D a) := by
  intro pins s σ H xs us Q I r h
  obtain ⟨c, cv, rfl, hcv, hne, hk, q⟩ := h
  obtain ⟨u, v, rfl, ru, rv⟩ := Vals.two r
  cases ru
  have ec := hcv _ rv
  subst ec
  obtain ⟨hget, _⟩ := I.pin (a, oe) (List.mem_append.mpr (.inl List.mem_cons_self))
  exact isa_yes hne hk I.kIn (fun M => hz ▸ (PySem.W.Looks.ld hget).andThen .now) fun tk => ⟨.bl true, H, I.kept (t' := tk) fun _ _ z => z, rfl, q⟩
def tIsY (K : PySem.W.Frag) (D a : Addr) (cls : Value) (t : TA) : TE := fun σ H Q => cls = .ref D ∧ tCB (rIsY K D a) t σ H Q
theorem pe_isY {X : Cx} {K : PySem.W.Frag} {a D : Addr} {oe : Obj} {pn : List (Addr × Obj)} {cls : Value} {d : Option Addr} {x : Str} {p pos : Pos} {e : Expr} {es : List Expr} {t : TA} (hK : X.K = K) (hz : Zc cls d oe)
    (hg : Gl (X.suite a ((a, oe) :: pn)) x) (hm : (X.suite a ((a, oe) :: pn)).mg x = none) (hb : bootBuiltins x = some (.builtin "isinstance")) (ha : PA (X.suite a ((a, oe) :: pn)) (e :: es) t)
    (h1 : x ≠ ("__name__" : Str) := by decide) (h2 : (x == ("__debug__" : Str)) = false := by decide)
    (h3 : starEach (e :: es) (X.suite a ((a, oe) :: pn)).env = (false, eval e (X.suite a ((a, oe) :: pn)).env) :: starEach es (X.suite a ((a, oe) :: pn)).env := by rfl) (h4 : ((backTo pos (starEach es (X.suite a ((a, oe) :: pn)).env)).any fun x => x.1) = false := by rfl) :
    PE (X.suite a ((a, oe) :: pn)) (.Call (.Name x p) (e :: es) [] pos) (tIsY K D a cls t) := by
  subst hK
  refine ⟨fun pins s σ H Q I h => ?_⟩
  obtain ⟨rfl, h⟩ := h
  exact (pe_callB (call_isY hz.1) hg hm hb ha h1 h2 h3 h4).run pins s σ H Q I h
/-- what an own class D of errors with the field f is found to be -/
structure ErrF (K : PySem.W.Frag) (mg : Str → Option Value) (nm : Str) (D M : Addr) (f : Str) : Prop where
  gP : mg nm = some (.ref D)
  eP : PySem.W.exmOne K (.ref D) (.ref D) = some true
  xf : XfC K D
  no : PySem.W.findIn K (.ref D) f = some none
  gM : mg "MatedsquaresError" = some (.ref M)
  neM : (Value.ref D == Value.ref M) = false
  yM : PySem.W.kitCls K (.ref D) (.ref M) = some true
  yV : PySem.W.kitCls K (.ref D) (.type "ValueError") = some true
  nV : mg "ValueError" = none
section
variable {K : PySem.W.Frag} {σ : L2.St} {H : Hp} {ta tb tc te : TE} {x y v : V}
theorem ev_isYM {mg : Str → Option Value} {C M a : Addr} {i : Nat} {nm f : Str} (E : ErrF K mg nm C M f) (h : σ[i]? = some (some (.ref a))) : Ev (tIsY K C a (.ref C) (tCons (tVar i) (tCons (tC (.ref M)) tNil))) σ H (.bl true) :=
  fun H1 e Q q => ⟨rfl, (ea_cons (ev_var h) (ea_cons ev_c ea_nil)) H1 e _ fun H2 e2 => ⟨.ref M, .ref M, rfl, fun u hu => hu, E.neM, E.yM, q H2 e2⟩⟩
theorem ev_isYV {mg : Str → Option Value} {C M a : Addr} {i : Nat} {nm f : Str} (E : ErrF K mg nm C M f) (h : σ[i]? = some (some (.ref a))) : Ev (tIsY K C a (.ref C) (tCons (tVar i) (tCons (tC (.ty "ValueError")) tNil))) σ H (.bl true) :=
  fun H1 e Q q => ⟨rfl, (ea_cons (ev_var h) (ea_cons ev_c ea_nil)) H1 e _ fun H2 e2 => ⟨.ty "ValueError", .type "ValueError", rfl, fun u hu => hu, rfl, E.yV, q H2 e2⟩⟩
theorem ev_pick2 {s1 s2 : Str} (h : ∀ H1, Ex H H1 → Ev tb σ H1 (.bl true)) : Ev (tOp (rIxL K) (tLst (tCons (tC (.str s1)) (tCons (tC (.str s2)) tNil))) (tCB (fun xs H Q => (∃ i, xs = [V.int i] ∧ Q (.int i) H) ∨ ∃ k, xs = [V.bl k] ∧ Q (.int (if k then 1 else 0)) H) (tCons tb tNil))) σ H (.str s2) :=
  ev_opL1 (xs := [.str s1, .str s2]) (y := .int ((1 : Nat) : Int)) (el_lst (ea_cons ev_c (ea_cons ev_c ea_nil)) (by show 2 ≤ 100000; decide)) (fun H1 e1 H2 e2 Q q => h H1 e1 H2 e2 _ fun H3 e3 => .inr ⟨true, rfl, q H3 e3⟩) fun p H1 hp e => rv_ixLn (sq_of hp) rfl
/-- the error's field -/
theorem ev_xf {C a dd : Addr} {i : Nat} {f : Str} {v : V} (h : σ[i]? = some (some (.ref a))) (hd : H dd = some (.xd [(f, v)])) : Ev (tXf a (.ref C) (some dd) C f (tVar i)) σ H v :=
  fun H1 e Q q => ⟨.ref a, h, rfl, rfl, dd, _, v, rfl, e dd _ hd, by rw [List.lookup_cons, beq_self_eq_true], q H1 (Ex.refl H1)⟩
end
end My
/-! transversals, found by trying the columns row by row: the cells that are put and the transversals, in their order -/
namespace Mm
inductive Evt where
  | put
  | leaf (cols : List Nat)
def signsOf (rows : List (List Int)) (cols : List Nat) : List Int := (List.range cols.length).map fun k => cel rows k (cols.getD k 0)
/-- a column that may stand in the next row -/
def fits (rows : List (List Int)) (cols : List Nat) (c : Nat) : Bool := !cols.contains c && !(signsOf rows cols).contains (cel rows cols.length c)
/-- what happens under some columns, d rows being open -/
def evs (n : Nat) (rows : List (List Int)) : Nat → List Nat → List Evt
  | 0, cols => [.leaf cols]
  | d + 1, cols => (List.range n).flatMap fun k => if fits rows cols k then .put :: evs n rows d (cols ++ [k]) else []
/-- .. from a column on -/
def sib (n : Nat) (rows : List (List Int)) (d : Nat) (cols : List Nat) (c : Nat) : List Evt := (List.range' c (n - c)).flatMap fun k => if fits rows cols k then .put :: evs n rows d (cols ++ [k]) else []
/-- what is still to come: the columns backwards, the next one to try -/
def rest (n : Nat) (rows : List (List Int)) : List Nat → Nat → List Evt
  | [], c => sib n rows (n - 1) [] c
  | l :: rc, c => sib n rows (n - (rc.length + 1) - 1) (l :: rc).reverse c ++ rest n rows rc (l + 1)
theorem rest_eq (n : Nat) (rows : List (List Int)) (rc : List Nat) (c : Nat) : rest n rows rc c = sib n rows (n - rc.length - 1) rc.reverse c ++ (match rc with | [] => [] | l :: r => rest n rows r (l + 1)) := by
  cases rc with
  | nil => show sib n rows (n - 1) [] c = _; rw [List.append_nil]; rfl
  | cons l r => rfl
theorem evs_sib (n : Nat) (rows : List (List Int)) (d : Nat) (cols : List Nat) : evs n rows (d + 1) cols = sib n rows d cols 0 := by
  unfold sib
  rw [evs, Nat.sub_zero, List.range_eq_range']
theorem sib_none {n : Nat} {rows : List (List Int)} {d : Nat} {cols : List Nat} {c : Nat} (h : ∀ j, c ≤ j → j < n → fits rows cols j = false) : sib n rows d cols c = [] := by
  unfold sib
  rw [List.flatMap_eq_nil_iff]
  intro k hk
  have := List.mem_range'_1.mp hk
  rw [h k (by omega) (by omega)]; rfl
theorem sib_fit {n : Nat} {rows : List (List Int)} {d : Nat} {cols : List Nat} {c k : Nat} (hc : c ≤ k) (hk : k < n) (hf : fits rows cols k = true) (h : ∀ j, c ≤ j → j < k → fits rows cols j = false) :
    sib n rows d cols c = .put :: (evs n rows d (cols ++ [k]) ++ sib n rows d cols (k + 1)) := by
  unfold sib
  have e : List.range' c (n - c) = List.range' c (k - c) ++ (k :: List.range' (k + 1) (n - (k + 1))) := by
    have h1 : n - c = (k - c) + (n - k) := by omega
    have h2 : n - k = (n - (k + 1)) + 1 := by omega
    have h3 : c + 1 * (k - c) = k := by omega
    rw [h1, ← List.range'_append (s := c) (m := k - c) (n := n - k) (step := 1), h3, h2, List.range'_succ]
  rw [e, List.flatMap_append, List.flatMap_cons]
  have e2 : (List.range' c (k - c)).flatMap (fun k => if fits rows cols k then Evt.put :: evs n rows d (cols ++ [k]) else []) = [] := by
    rw [List.flatMap_eq_nil_iff]
    intro j hj
    have := List.mem_range'_1.mp hj
    rw [h j (by omega) (by omega)]; rfl
  rw [e2, if_pos hf]
  rfl
theorem rest_total {n : Nat} (rows : List (List Int)) (hn : 1 ≤ n) : rest n rows [] 0 = evs n rows n [] := by
  obtain ⟨d, rfl⟩ : ∃ d, n = d + 1 := ⟨n - 1, by omega⟩
  rw [evs_sib]; rfl
/-- no column is left: one row back -/
theorem rest_none {n : Nat} {rows : List (List Int)} {l : Nat} {rc : List Nat} {c : Nat} (h : ∀ j, c ≤ j → j < n → fits rows (l :: rc).reverse j = false) : rest n rows (l :: rc) c = rest n rows rc (l + 1) := by
  show sib n rows _ (l :: rc).reverse c ++ _ = _
  rw [sib_none h]; rfl
theorem rest_end {n : Nat} {rows : List (List Int)} {c : Nat} (h : ∀ j, c ≤ j → j < n → fits rows [] j = false) : rest n rows [] c = [] := sib_none h
/-- a column is put, and it was the last row's -/
theorem rest_leaf {n : Nat} {rows : List (List Int)} {rc : List Nat} {c k : Nat} (hr : rc.length + 1 = n) (hc : c ≤ k) (hk : k < n) (hf : fits rows rc.reverse k = true) (h : ∀ j, c ≤ j → j < k → fits rows rc.reverse j = false) :
    rest n rows rc c = .put :: .leaf (rc.reverse ++ [k]) :: rest n rows rc (k + 1) := by
  rw [rest_eq, rest_eq n rows rc (k + 1), sib_fit hc hk hf h]
  have : n - rc.length - 1 = 0 := by omega
  rw [this, evs]; rfl
/-- a column is put, and more rows are open -/
theorem rest_put {n : Nat} {rows : List (List Int)} {rc : List Nat} {c k : Nat} (hr : rc.length + 1 < n) (hc : c ≤ k) (hk : k < n) (hf : fits rows rc.reverse k = true) (h : ∀ j, c ≤ j → j < k → fits rows rc.reverse j = false) :
    rest n rows rc c = .put :: rest n rows (k :: rc) 0 := by
  rw [rest_eq, sib_fit hc hk hf h]
  obtain ⟨d, hd⟩ : ∃ d, n - rc.length - 1 = d + 1 := ⟨n - rc.length - 2, by omega⟩
  show Evt.put :: ((evs n rows (n - rc.length - 1) (rc.reverse ++ [k]) ++ sib n rows (n - rc.length - 1) rc.reverse (k + 1)) ++ _) = Evt.put :: (sib n rows (n - (rc.length + 1) - 1) (k :: rc).reverse 0 ++ rest n rows rc (k + 1))
  have hd2 : n - (rc.length + 1) - 1 = d := by omega
  rw [rest_eq n rows rc (k + 1), hd, hd2, evs_sib, List.reverse_cons, List.append_assoc]
/-! ### what is counted -/
def leaves : List Evt → List (List Nat)
  | [] => []
  | .put :: r => leaves r
  | .leaf c :: r => c :: leaves r
def puts : List Evt → Nat
  | [] => 0
  | .put :: r => puts r + 1
  | .leaf _ :: r => puts r
/-- the cells that are put up to the first transversal -/
def putsTo : List Evt → Nat
  | [] => 0
  | .put :: r => putsTo r + 1
  | .leaf _ :: _ => 0
theorem leaves_app : ∀ a b : List Evt, leaves (a ++ b) = leaves a ++ leaves b
  | [], _ => rfl
  | .put :: a, b => leaves_app a b
  | .leaf c :: a, b => by show c :: leaves (a ++ b) = _; rw [leaves_app a b]; rfl
theorem puts_app : ∀ a b : List Evt, puts (a ++ b) = puts a + puts b
  | [], b => (Nat.zero_add _).symm
  | .put :: a, b => by show puts (a ++ b) + 1 = puts a + 1 + puts b; rw [puts_app a b]; omega
  | .leaf _ :: a, b => puts_app a b
theorem putsTo_app : ∀ a b : List Evt, putsTo (a ++ b) = if leaves a = [] then puts a + putsTo b else putsTo a
  | [], b => by show putsTo b = if ([] : List (List Nat)) = [] then 0 + putsTo b else 0; simp
  | .put :: a, b => by
    show putsTo (a ++ b) + 1 = if leaves a = [] then puts a + 1 + putsTo b else putsTo a + 1
    rw [putsTo_app a b]
    by_cases h : leaves a = []
    · rw [if_pos h, if_pos h]; omega
    · rw [if_neg h, if_neg h]
  | .leaf c :: a, b => by show 0 = if c :: leaves a = [] then _ else 0; rw [if_neg (by simp)]
theorem puts_le (a : List Evt) : putsTo a ≤ puts a := by
  induction a with
  | nil => exact Nat.le_refl _
  | cons x a ih =>
    cases x with
    | put => exact Nat.succ_le_succ ih
    | leaf c => exact Nat.zero_le _
/-! ### how many -/
def fact : Nat → Nat
  | 0 => 1
  | n + 1 => (n + 1) * fact n
theorem fact_mono {a b : Nat} (h : a ≤ b) : fact a ≤ fact b := by
  induction h with
  | refl => exact Nat.le_refl _
  | step _ ih => exact Nat.le_trans ih (Nat.le_mul_of_pos_left _ (Nat.succ_pos _))
theorem leaves_flat (l : List Nat) (f : Nat → List Evt) : leaves (l.flatMap f) = l.flatMap fun k => leaves (f k) := by
  induction l with
  | nil => rfl
  | cons k l ih => rw [List.flatMap_cons, leaves_app, ih, List.flatMap_cons]
theorem flat_len (l : List Nat) (p : Nat → Bool) (g : Nat → List (List Nat)) (m : Nat) (h : ∀ k ∈ l, p k = true → (g k).length ≤ m) : (l.flatMap fun k => if p k then g k else []).length ≤ (l.filter p).length * m := by
  induction l with
  | nil => exact Nat.zero_le _
  | cons k l ih =>
    have ih2 := ih fun j hj => h j (List.mem_cons_of_mem _ hj)
    rw [List.flatMap_cons, List.length_append, List.filter_cons]
    cases hp : p k with
    | true =>
      have := h k (List.mem_cons_self ..) hp
      rw [if_pos rfl, if_pos rfl, List.length_cons, Nat.succ_mul]; omega
    | false =>
      rw [if_neg (by decide), if_neg (by decide)]
      simpa using ih2
theorem nodup_sub {α : Type} [DecidableEq α] : ∀ (a b : List α), a.Nodup → a ⊆ b → a.length ≤ b.length
  | [], _, _, _ => Nat.zero_le _
  | x :: a, b, h, hs => by
    have hx := List.nodup_cons.mp h
    have hxb : x ∈ b := hs (List.mem_cons_self ..)
    have ih := nodup_sub a (b.erase x) hx.2 fun y hy => by
      have hne : y ≠ x := fun z => hx.1 (z ▸ hy)
      exact (List.mem_erase_of_ne hne).mpr (hs (List.mem_cons_of_mem _ hy))
    have h2 := List.length_erase_of_mem hxb
    have h3 : 0 < b.length := List.length_pos_of_mem hxb
    show a.length + 1 ≤ b.length
    omega
theorem free_len {n : Nat} {cols : List Nat} (hd : cols.Nodup) (hb : ∀ x ∈ cols, x < n) : ((List.range n).filter fun k => !cols.contains k).length + cols.length ≤ n := by
  have h1 : (((List.range n).filter fun k => !cols.contains k) ++ cols).Nodup := by
    rw [List.nodup_append]
    refine ⟨(List.nodup_range).filter _, hd, fun a ha b hb2 hab => ?_⟩
    have := (List.mem_filter.mp ha).2
    rw [hab] at this
    simp [hb2] at this
  have h2 : (((List.range n).filter fun k => !cols.contains k) ++ cols) ⊆ List.range n := fun x hx => by
    rcases List.mem_append.mp hx with h | h
    · exact (List.mem_filter.mp h).1
    · exact List.mem_range.mpr (hb x h)
  have h3 := nodup_sub _ _ h1 h2
  rw [List.length_append, List.length_range] at h3
  exact h3
theorem leaves_len (n : Nat) (rows : List (List Int)) : ∀ (d : Nat) (cols : List Nat), cols.length + d = n → cols.Nodup → (∀ x ∈ cols, x < n) → (leaves (evs n rows d cols)).length ≤ fact d
  | 0, cols, _, _, _ => Nat.le_refl _
  | d + 1, cols, hl, hd, hb => by
    rw [evs, leaves_flat]
    have e : (fun k => leaves (if fits rows cols k then Evt.put :: evs n rows d (cols ++ [k]) else [])) = fun k => if fits rows cols k then leaves (evs n rows d (cols ++ [k])) else [] := by
      funext k
      cases fits rows cols k <;> rfl
    rw [e]
    refine Nat.le_trans (flat_len _ _ _ (fact d) fun k hk hf => ?_) ?_
    · unfold fits at hf
      rw [Bool.and_eq_true] at hf
      have hk2 := List.mem_range.mp hk
      have hnc : k ∉ cols := by simpa using hf.1
      refine leaves_len n rows d (cols ++ [k]) (by rw [List.length_append]; show cols.length + 1 + d = n; omega) ?_ ?_
      · rw [List.nodup_append]
        exact ⟨hd, List.nodup_cons.mpr ⟨List.not_mem_nil, List.nodup_nil⟩, fun a ha b hb2 hab => hnc (by rw [List.mem_singleton] at hb2; rw [← hb2, ← hab]; exact ha)⟩
      · intro x hx
        rcases List.mem_append.mp hx with h | h
        · exact hb x h
        · rw [List.mem_singleton.mp h]; exact hk2
    · refine Nat.mul_le_mul_right _ ?_
      have h1 := free_len hd hb
      have h2 : ((List.range n).filter fun k => fits rows cols k).length ≤ ((List.range n).filter fun k => !cols.contains k).length := by
        rw [← List.countP_eq_length_filter, ← List.countP_eq_length_filter]
        refine List.countP_mono_left fun k _ hk => ?_
        unfold fits at hk
        rw [Bool.and_eq_true] at hk
        exact hk.1
      have h3 : ((List.range n).filter (fits rows cols)).length = ((List.range n).filter fun k => fits rows cols k).length := rfl
      omega
/-- how many cells at most -/
def pfact : Nat → Nat
  | 0 => 0
  | n + 1 => (n + 1) * (pfact n + 1)
theorem pfact_mono {a b : Nat} (h : a ≤ b) : pfact a ≤ pfact b := by
  induction h with
  | refl => exact Nat.le_refl _
  | @step m _ ih => exact Nat.le_trans ih (Nat.le_trans (Nat.le_succ _) (Nat.le_mul_of_pos_left _ (Nat.succ_pos _)))
theorem puts_flat (l : List Nat) (p : Nat → Bool) (g : Nat → List Evt) (m : Nat) (h : ∀ k ∈ l, p k = true → puts (g k) ≤ m) : puts (l.flatMap fun k => if p k then g k else []) ≤ (l.filter p).length * m := by
  induction l with
  | nil => exact Nat.zero_le _
  | cons k l ih =>
    have ih2 := ih fun j hj => h j (List.mem_cons_of_mem _ hj)
    rw [List.flatMap_cons, puts_app, List.filter_cons]
    cases hp : p k with
    | true =>
      have := h k (List.mem_cons_self ..) hp
      rw [if_pos rfl, if_pos rfl, List.length_cons, Nat.succ_mul]; omega
    | false =>
      rw [if_neg (by decide), if_neg (by decide)]
      show 0 + _ ≤ _
      omega
theorem fits_split {rows : List (List Int)} {cols : List Nat} {k : Nat} (h : fits rows cols k = true) : k ∉ cols ∧ cel rows cols.length k ∉ signsOf rows cols := by
  unfold fits at h
  rw [Bool.and_eq_true] at h
  exact ⟨by simpa using h.1, by simpa using h.2⟩
theorem free_le {n : Nat} {rows : List (List Int)} {cols : List Nat} (hd : cols.Nodup) (hb : ∀ x ∈ cols, x < n) : ((List.range n).filter (fits rows cols)).length + cols.length ≤ n := by
  have h1 := free_len hd hb
  have h2 : ((List.range n).filter fun k => fits rows cols k).length ≤ ((List.range n).filter fun k => !cols.contains k).length := by
    rw [← List.countP_eq_length_filter, ← List.countP_eq_length_filter]
    refine List.countP_mono_left fun k _ hk => ?_
    unfold fits at hk
    rw [Bool.and_eq_true] at hk
    exact hk.1
  have h3 : ((List.range n).filter (fits rows cols)).length = ((List.range n).filter fun k => fits rows cols k).length := rfl
  omega
theorem nodup_snoc {α : Type} {l : List α} {x : α} (h : l.Nodup) (hx : x ∉ l) : (l ++ [x]).Nodup := by
  rw [List.nodup_append]
  exact ⟨h, List.nodup_cons.mpr ⟨List.not_mem_nil, List.nodup_nil⟩, fun a ha b hb hab => hx (by rw [List.mem_singleton] at hb; rw [← hb, ← hab]; exact ha)⟩
theorem puts_len (n : Nat) (rows : List (List Int)) : ∀ (d : Nat) (cols : List Nat), cols.length + d = n → cols.Nodup → (∀ x ∈ cols, x < n) → puts (evs n rows d cols) ≤ pfact d
  | 0, cols, _, _, _ => Nat.le_refl _
  | d + 1, cols, hl, hd, hb => by
    rw [evs]
    refine Nat.le_trans (puts_flat _ (fits rows cols) (fun k => .put :: evs n rows d (cols ++ [k])) (pfact d + 1) fun k hk hf => ?_) ?_
    · have hk2 := List.mem_range.mp hk
      have hs := fits_split hf
      have := puts_len n rows d (cols ++ [k]) (by rw [List.length_append]; show cols.length + 1 + d = n; omega) (nodup_snoc hd hs.1) (fun x hx => by
        rcases List.mem_append.mp hx with h | h
        · exact hb x h
        · rw [List.mem_singleton.mp h]; exact hk2)
      show puts _ + 1 ≤ _
      omega
    · exact Nat.mul_le_mul_right _ (by have := free_le (rows := rows) hd hb; omega)
theorem puts_pos {n : Nat} (rows : List (List Int)) (h : 1 ≤ n) : 1 ≤ puts (evs n rows n []) := by
  obtain ⟨d, rfl⟩ : ∃ d, n = d + 1 := ⟨n - 1, by omega⟩
  have hf : fits rows [] 0 = true := rfl
  rw [evs_sib, sib_fit (k := 0) (Nat.le_refl _) (by omega) hf (fun j _ h => by omega)]
  exact Nat.succ_le_succ (Nat.zero_le _)
theorem iota_nodup (n : Nat) : (iota n).Nodup := by
  unfold iota
  refine List.pairwise_map.mpr ((List.nodup_range).imp fun h z => h (by omega))
theorem perm_of {n : Nat} {l : List Int} (hd : l.Nodup) (hl : l.length = n) (hb : ∀ x ∈ l, 0 ≤ x ∧ x < n) : l.Perm (iota n) := by
  refine (List.perm_ext_iff_of_nodup hd (iota_nodup n)).mpr fun a => ⟨fun h => iota_mem.mpr (hb a h), fun h => ?_⟩
  by_cases hz : a ∈ l
  · exact hz
  · have h1 := nodup_sub (l ++ [a]) (iota n) (nodup_snoc hd hz) fun x hx => by
      rcases List.mem_append.mp hx with h2 | h2
      · exact iota_mem.mpr (hb x h2)
      · rw [List.mem_singleton.mp h2]; exact h
    rw [List.length_append, iota_len, hl] at h1
    exact absurd h1 (by show ¬ n + 1 ≤ n; omega)
theorem signsOf_snoc (rows : List (List Int)) (cols : List Nat) (k : Nat) : signsOf rows (cols ++ [k]) = signsOf rows cols ++ [cel rows cols.length k] := by
  unfold signsOf
  rw [List.length_append, List.length_singleton, List.range_succ, List.map_append]
  congr 1
  · refine List.map_congr_left fun i hi => ?_
    have := List.mem_range.mp hi
    rw [List.getD_eq_getElem?_getD, List.getElem?_append_left this, List.getD_eq_getElem?_getD]
  · rw [List.map_singleton, List.getD_eq_getElem?_getD, List.getElem?_append_right (Nat.le_refl _), Nat.sub_self]; rfl
theorem leaf_ok (n : Nat) (rows : List (List Int)) : ∀ (d : Nat) (cols : List Nat), cols.length + d = n → cols.Nodup → (∀ x ∈ cols, x < n) → (signsOf rows cols).Nodup → ∀ c ∈ leaves (evs n rows d cols), c.Nodup ∧ c.length = n ∧ (∀ x ∈ c, x < n) ∧ (signsOf rows c).Nodup
  | 0, cols, hl, hd, hb, hs, c, hc => by
    have : c = cols := List.mem_singleton.mp hc
    rw [this]; exact ⟨hd, by omega, hb, hs⟩
  | d + 1, cols, hl, hd, hb, hs, c, hc => by
    rw [evs, leaves_flat] at hc
    obtain ⟨k, hk, hc2⟩ := List.mem_flatMap.mp hc
    have hk2 := List.mem_range.mp hk
    by_cases hf : fits rows cols k = true
    · rw [if_pos hf] at hc2
      have hs2 := fits_split hf
      exact leaf_ok n rows d (cols ++ [k]) (by rw [List.length_append]; show cols.length + 1 + d = n; omega) (nodup_snoc hd hs2.1) (fun x hx => by
        rcases List.mem_append.mp hx with h | h
        · exact hb x h
        · rw [List.mem_singleton.mp h]; exact hk2) (by rw [signsOf_snoc]; exact nodup_snoc hs hs2.2) c hc2
    · rw [if_neg hf] at hc2; cases hc2
end Mm
set_option maxHeartbeats 2000000
namespace My
open PySem PySem.Spec PyProof.Rows L2 Evl Mm
def natI (cols : List Nat) : List Int := cols.map fun x : Nat => (x : Int)
theorem natI_len (cols : List Nat) : (natI cols).length = cols.length := by unfold natI; rw [List.length_map]
theorem natI_get {cols : List Nat} {i : Nat} (h : i < cols.length) : (natI cols).getD i 0 = ((cols.getD i 0 : Nat) : Int) := by
  unfold natI
  rw [List.getD_eq_getElem?_getD, List.getElem?_map, List.getElem?_eq_getElem h, List.getD_eq_getElem?_getD, List.getElem?_eq_getElem h]; rfl
theorem inV_ints (n : Int) : ∀ ns : List Int, inV (.int n) (ns.map V.int) = ns.contains n := by
  intro ns
  induction ns with
  | nil => rfl
  | cons m ns ih =>
    rw [List.map_cons, List.contains_cons]
    show (eqV (.int m) (.int n) || inV (.int n) (ns.map V.int)) = _
    rw [ih]
    congr 1
    show (m == n) = (n == m)
    by_cases h : m = n
    · rw [h]
    · rw [beq_eq_false_iff_ne.mpr h, beq_eq_false_iff_ne.mpr fun z => h z.symm]
theorem natI_has (cols : List Nat) (c : Nat) : (natI cols).contains (c : Int) = cols.contains c := by
  induction cols with
  | nil => rfl
  | cons x cols ih =>
    show ((x : Int) :: natI cols).contains (c : Int) = _
    rw [List.contains_cons, List.contains_cons, ih]
    congr 1
    by_cases h : c = x
    · subst h; simp
    · have : ¬ (c : Int) = (x : Int) := by omega
      rw [beq_eq_false_iff_ne.mpr h, beq_eq_false_iff_ne.mpr this]
section
variable {K : PySem.W.Frag} {σ : L2.St} {H : Hp} {ta tb tc te tl : TE} {x y v : V} {D : Ends} {tz : TS}
/-- i = xs.pop() + 1 -/
theorem s_asgPop1 {l : Addr} {xs : List Int} {x : Int} {i : Nat} (hl : H l = some (.lst ((xs ++ [x]).map V.int))) (ha : Ev ta σ H (.ref l)) (k : ∀ H1, Ex H H1 → D.nx (σ.set i (some (.int (x + 1)))) (upd H1 l (.lst (xs.map V.int)))) :
    tAsg (tOp (rI0 fun i j => .int (i + j)) (tBM0 K "list" rPop ta) (tC (.int 1))) (gName i) D σ H := ha H (Ex.refl H) _ fun H1 e1 =>
  ⟨Or.inl ⟨rfl, _, sq_of (e1 l _ hl)⟩, l, _, .int x, rfl, rfl, e1 l _ hl, by simp, by
    refine ⟨x, 1, rfl, rfl, ?_⟩
    have := k H1 e1
    rwa [show ((xs ++ [x]).map V.int).dropLast = xs.map V.int by rw [List.map_append]; exact List.dropLast_concat]⟩
theorem sqT_upd {a l : Addr} {xs ys : List V} {o : HO} (h : SqT K H a xs) (hl : H l = some (.lst ys)) : SqT K (upd H l o) a xs := by
  rcases h with (h | ⟨u, h⟩) | h
  · exact .inl (.inl (by rw [upd_ne (fun z => by rw [z, hl] at h; cases h)]; exact h))
  · exact .inl (.inr ⟨u, by rw [upd_ne (fun z => by rw [z, hl] at h; cases h)]; exact h⟩)
  · exact .inr h
end
end My
set_option maxHeartbeats 2000000
/-! defs with one keyword-only parameter, called with it and without it -/
namespace My
open PySem PySem.Spec PyProof.Rows L2 Evl Mm
def kwG : List Value → List Value → List Value := fun us ws => us ++ ws
def kwV : List V → List V → List V := fun vs zs => vs ++ zs
structure DfK (K : PySem.W.Frag) (mg : Str → Option Value) (x : Str) (st : Stmt) (ps : List Str) (kn : Str) (dv : Int) (m : Nat) : Prop where
  ex : ∃ f fd, FunD K x x (defArgs st) (defBody st) (defScope st) [] [(kn, .int dv)] f fd ∧ mg x = some (.ref f) ∧ (∃ ds, Vals [.int dv] ds ∧ Binds K fd ps ds) ∧ KBn K fd ps m [kn] kwG kwV
structure Ck (P : Program) (w : World) (K : PySem.W.Frag) (mg : Str → Option Value) (base : Heap) (k : Nat) (x : Str) (kn : Str) (dv : Int) (m : Nat) (sp : Sp) : Prop where
  ex : ∃ (f : Addr) (fd : FuncData) (ps : List Str) (ds : List Value), FnOk P w K mg base (L2.CX P w) k f fd ps sp ∧ mg x = some (.ref f) ∧ PySem.W.keepIn K (.ref f) = true ∧ Vals [.int dv] ds ∧ Binds K fd ps ds ∧ KBn K fd ps m [kn] kwG kwV
theorem DfK.okX {P : Program} {w : World} {K : PySem.W.Frag} {mg : Str → Option Value} {base : Heap} {x kn : Str} {st : Stmt} {N ps : List Str} {k m : Nat} {dv : Int} {sp : Sp} (D : DfK K mg x st ps kn dv m) (S : FnScope N ps (defScope st)) (len : ∀ vs H Q E, sp vs H Q E → vs.length = ps.length)
    (hbody : ∀ (f : Addr) (cdv : Value) (A : Around) (outer : List Env) (s : Shared) (H : Hp) (vs : List V) (Q : VK) (E : XK), Room k (A.deeper (envOfC x (defScope st) s.heap.objs.size f cdv)) → sp vs H Q E →
      ∃ t, PSs (cxOf (L2.CX P w) P w K mg base N x (defScope st) f cdv A outer s H E) (defBody st) t ∧ t { nx := fun _ H' => Q .non H', rt := Q } (start N vs) H) : Ck P w K mg base (k + 1) x kn dv m sp := by
  obtain ⟨f, fd, F, hm, ⟨ds, hd, hb⟩, hk⟩ := D.ex
  exact ⟨f, fd, ps, ds, F.ok S len fun cdv A outer s H vs Q E hr hsp => hbody f cdv A outer s H vs Q E hr hsp, hm, F.kp, hd, hb, hk⟩
def tCallNS (n m : Nat) (sp : Sp) (gV : List V → List V → List V) (E : L2.St → XK) (t tk : TA) : TE := fun σ H Q => t σ H fun vs H1 => tk σ H1 fun zs H2 => vs.length = n ∧ zs.length = m ∧ sp (gV vs zs) H2 Q (E σ)
section
variable {X : Cx} {k j n m : Nat} {ps ks : List Str} {sp : Sp} {x kn : Str} {dv : Int} {p pos kpos : Pos} {e : Expr} {es : List Expr} {kws : List Keyword} {t tk : TA} {W : WX} {g : List Value → List Value → List Value} {gV : List V → List V → List V}
theorem pe_callNS {f : Addr} {fd : FuncData} {E : L2.St → XK} (F : FnOk X.prog X.w X.K X.mg X.base (L2.CX X.prog X.w) k f fd ps sp) (hr : Room k X.A) (hg : Gl X x) (hm : X.mg x = some (.ref f)) (hk : PySem.W.keepIn X.K (.ref f) = true) (hb : KBn X.K fd ps n ks g gV) (hx : ∀ σ, PassesAt (L2.CX X.prog X.w) X σ (E σ))
    (ha : PA X (e :: es) t) (hkw : PK X kws tk) (hall : (backToKw pos (keywordEach kws X.env)).all (·.1.isSome) = true := by rfl) (hks : (backToKw pos (keywordEach kws X.env)).filterMap (·.1) = ks := by rfl)
    (hdb : (x == ("__debug__" : Str)) = false := by decide) (he : starEach (e :: es) X.env = (false, eval e X.env) :: starEach es X.env := by rfl)
    (hpl : ((backTo pos (starEach (e :: es) X.env)).any (·.1) || (backToKw pos (keywordEach kws X.env)).any (·.1.isNone)) = false := by rfl) :
    PE X (.Call (.Name x p) (e :: es) kws pos) (tCallNS n ks.length sp gV E t tk) := by
  refine ⟨fun pins s σ H Q I h => ?_⟩
  refine wpAny_Call_Name_kw (ld_glob I hg hm ?_ hdb)
  refine PySem.W.callWith_KW (h₀ := X.base) I.ok.mod.kin hk hall (thn (ha.run pos pins s σ H _ I h) fun us s1 ⟨vs, H1, I1, r, q⟩ => ?_) hpl he
  refine thn (hkw.run pos pins s1 σ H1 _ I1 q) fun ws s2 ⟨zs, H2, I2, rz, l1, l2, q2⟩ => ⟨I2.kIn, ?_⟩
  rw [hks]
  refine wpAny_call (codeAny_mono (F.run X.A X.stack s2 H2 ⟨us, ks.zip ws⟩ (g us ws) (gV vs zs) Q (E σ) hr I2.env0 (hb.to s2 us ws I2.kIn (r.length.symm.trans l1) (rz.length.symm.trans l2)) (hb.rel r rz) q2) fun r s' hq => ?_)
  cases r with
  | error e => exact hx σ pins H2 s2 e s' I2 hq
  | ok fl =>
    cases fl with
    | ret u => exact I2.after hq
    | next => exact hq.elim
    | brk => exact hq.elim
    | cont => exact hq.elim
/-- x(e, .., kn = f), which may raise -/
theorem pe_ckN {f : Expr} (c : Ck X.prog X.w X.K X.mg X.base k x kn dv m sp) (hr : Room j X.A) (hk : k ≤ j) (hg : Gl X x) (tkk : Takes X W) (ha : PA X (e :: es) t) (hkw : PK X [⟨some kn, f, kpos⟩] tk)
    (hall : (backToKw pos (keywordEach [⟨some kn, f, kpos⟩] X.env)).all (·.1.isSome) = true := by rfl) (hks : (backToKw pos (keywordEach [⟨some kn, f, kpos⟩] X.env)).filterMap (·.1) = [kn] := by rfl)
    (hdb : (x == ("__debug__" : Str)) = false := by decide) (he : starEach (e :: es) X.env = (false, eval e X.env) :: starEach es X.env := by rfl)
    (hpl : ((backTo pos (starEach (e :: es) X.env)).any (·.1) || (backToKw pos (keywordEach [⟨some kn, f, kpos⟩] X.env)).any (·.1.isNone)) = false := by rfl) :
    PE X (.Call (.Name x p) (e :: es) [⟨some kn, f, kpos⟩] pos) (tCallNS m 1 sp kwV (WE W) t tk) := by
  obtain ⟨f, fd, ps, ds, F, hm, kp, _, _, hb⟩ := c.ex
  exact pe_callNS F (hr.mono hk) hg hm kp hb (fun σ => passAt tkk σ) ha hkw hall hks hdb he hpl
/-- x(e, ..), the keyword's default, where nothing is raised -/
theorem pe_ck0 (c : Ck X.prog X.w X.K X.mg X.base k x kn dv m sp) (hr : Room j X.A) (hk : k ≤ j) (hg : Gl X x) (ha : PA X (e :: es) t)
    (hdb : (x == ("__debug__" : Str)) = false := by decide) (he : starEach (e :: es) X.env = (false, eval e X.env) :: starEach es X.env := by rfl) (hpl : (backTo pos (starEach es X.env)).any (·.1) = false := by rfl) :
    PE X (.Call (.Name x p) (e :: es) [] pos) (tCall sp [.int dv] L2.E0 t) := by
  obtain ⟨f, fd, ps, ds, F, hm, kp, hd, hb, _⟩ := c.ex
  exact pe_call F (hr.mono hk) hg hm kp hb hd passL ha hdb he hpl
end
end My
set_option maxHeartbeats 2000000
/-! two lists that change, all else stays -/
namespace My
open PySem PySem.Spec PyProof.Rows L2 Evl Mm
def rm2 (H : Hp) (a b : Addr) : Hp := fun c => if c = a ∨ c = b then none else H c
theorem rm2_at {H : Hp} {a b c : Addr} {o : HO} (h : rm2 H a b c = some o) : c ≠ a ∧ c ≠ b ∧ H c = some o := by
  unfold rm2 at h
  by_cases hz : c = a ∨ c = b
  · rw [if_pos hz] at h; cases h
  · rw [if_neg hz] at h
    exact ⟨fun z => hz (.inl z), fun z => hz (.inr z), h⟩
theorem rm2_of {H : Hp} {a b c : Addr} {o : HO} (h1 : c ≠ a) (h2 : c ≠ b) (h : H c = some o) : rm2 H a b c = some o := by
  unfold rm2
  rw [if_neg (fun z => z.elim h1 h2)]; exact h
theorem rm2_ex (H : Hp) (a b : Addr) : Ex (rm2 H a b) H := fun c o h => (rm2_at h).2.2
theorem rm2_ups {H H1 : Hp} {a b : Addr} (e : Ex H H1) : Ex (rm2 H a b) (rm2 H1 a b) := fun c o h => by
  obtain ⟨h1, h2, h3⟩ := rm2_at h
  exact rm2_of h1 h2 (e c o h3)
theorem rm2_fold {H H1 : Hp} {a b : Addr} (e : Ex (rm2 H a b) H1) : Ex (rm2 H a b) (rm2 H1 a b) := fun c o h => by
  obtain ⟨h1, h2, _⟩ := rm2_at h
  exact rm2_of h1 h2 (e c o h)
theorem rm2_updA {H H1 : Hp} {a b : Addr} {u : HO} (e : Ex (rm2 H a b) H1) : Ex (rm2 H a b) (upd H1 a u) := fun c o h => by
  rw [upd_ne (rm2_at h).1]; exact e c o h
theorem rm2_updB {H H1 : Hp} {a b : Addr} {u : HO} (e : Ex (rm2 H a b) H1) : Ex (rm2 H a b) (upd H1 b u) := fun c o h => by
  rw [upd_ne (rm2_at h).2.1]; exact e c o h
/-- found, and the two counts -/
structure LS (H : Hp) (fo tr : Addr) (ts : List Addr) (ls : List (List Nat)) (t0 : Nat) (x1 : V) : Prop where
  ne : fo ≠ tr
  isf : H fo = some (.lst (ts.map V.ref))
  ist : H tr = some (.lst [.int (t0 : Int), x1])
  len : ts.length = ls.length
  tup : ∀ (i : Nat) (t : Addr), ts[i]? = some t → H t = some (.tup ((natI (ls.getD i [])).map V.int))
theorem LS.off {H : Hp} {fo tr : Addr} {ts : List Addr} {ls : List (List Nat)} {t0 : Nat} {x1 : V} (A : LS H fo tr ts ls t0 x1) {i : Nat} {t : Addr} (h : ts[i]? = some t) : t ≠ fo ∧ t ≠ tr := by
  have := A.tup i t h
  exact ⟨(fun z => by rw [z, A.isf] at this; cases this), (fun z => by rw [z, A.ist] at this; cases this)⟩
theorem LS.up {H H1 : Hp} {fo tr : Addr} {ts : List Addr} {ls : List (List Nat)} {t0 : Nat} {x1 : V} (A : LS H fo tr ts ls t0 x1) (e : Ex H H1) : LS H1 fo tr ts ls t0 x1 :=
  ⟨A.ne, e _ _ A.isf, e _ _ A.ist, A.len, fun i t h => e _ _ (A.tup i t h)⟩
theorem LS.setT {H H1 : Hp} {fo tr : Addr} {ts : List Addr} {ls : List (List Nat)} {t0 : Nat} {x1 : V} (A : LS H fo tr ts ls t0 x1) (e : Ex H H1) (t0' : Nat) (x1' : V) : LS (upd H1 tr (.lst [.int (t0' : Int), x1'])) fo tr ts ls t0' x1' :=
  have B := A.up e
  ⟨A.ne, by rw [upd_ne A.ne]; exact B.isf, upd_same, A.len, fun i t h => by rw [upd_ne (A.off h).2]; exact B.tup i t h⟩
theorem LS.addF {H H1 : Hp} {fo tr p : Addr} {ts : List Addr} {ls : List (List Nat)} {new : List Nat} {t0 : Nat} {x1 : V} (A : LS H fo tr ts ls t0 x1) (e : Ex H H1) (hp : H1 p = some (.tup ((natI new).map V.int))) : LS (upd H1 fo (.lst (ts.map V.ref ++ [.ref p]))) fo tr (ts ++ [p]) (ls ++ [new]) t0 x1 := by
  have B := A.up e
  have pf : p ≠ fo := fun z => by rw [z, B.isf] at hp; cases hp
  refine ⟨A.ne, by rw [upd_same, List.map_append]; rfl, by rw [upd_ne A.ne.symm]; exact B.ist, by rw [List.length_append, List.length_append, A.len]; rfl, fun i t h => ?_⟩
  by_cases hi : i < ts.length
  · rw [List.getElem?_append_left hi] at h
    rw [upd_ne (A.off h).1, B.tup i t h, List.getD_eq_getElem?_getD, List.getD_eq_getElem?_getD, List.getElem?_append_left (by have := A.len; omega)]
  · rw [List.getElem?_append_right (by omega)] at h
    have h0 : i - ts.length = 0 := by
      have := (List.getElem?_eq_some_iff.mp h).1
      simp at this; omega
    rw [h0] at h
    cases h
    rw [upd_ne pf, hp, List.getD_eq_getElem?_getD, List.getElem?_append_right (by have := A.len; omega)]
    have : i - ls.length = 0 := by have := A.len; omega
    rw [this]; rfl
/-- the second count: how many were put up to the first one found -/
def xAft (ls : List (List Nat)) (t0 : Nat) (x1 : V) (ev : List Evt) : V := if ls = [] ∧ leaves ev ≠ [] then .int ((t0 + putsTo ev : Nat) : Int) else x1
theorem xAft_app (ls : List (List Nat)) (t0 : Nat) (x1 : V) (a b : List Evt) : xAft ls t0 x1 (a ++ b) = xAft (ls ++ leaves a) (t0 + puts a) (xAft ls t0 x1 a) b := by
  unfold xAft
  rw [leaves_app, putsTo_app]
  by_cases h : ls = []
  · subst h
    by_cases ha : leaves a = []
    · rw [ha, if_pos rfl]
      by_cases hb : leaves b = []
      · simp [hb]
      · simp [hb, Nat.add_assoc]
    · rw [if_neg ha]
      simp [ha]
  · simp [h]
theorem xAft_put (ls : List (List Nat)) (t : Nat) (x1 : V) (ev : List Evt) : xAft ls t x1 (.put :: ev) = xAft ls (t + 1) x1 ev := by
  unfold xAft
  show (if ls = [] ∧ leaves ev ≠ [] then V.int ((t + (putsTo ev + 1) : Nat) : Int) else x1) = _
  rw [show t + (putsTo ev + 1) = t + 1 + putsTo ev by omega]
theorem xAft_nil (ls : List (List Nat)) (t0 : Nat) (x1 : V) : xAft ls t0 x1 [] = x1 := by unfold xAft; rw [if_neg (fun z => z.2 rfl)]
section
variable {K : PySem.W.Frag} {σ : L2.St} {H : Hp} {D : Ends}
/-- f(a, [..], b, c), its answer let go -/
theorem s_drop4 {sp : Sp} {E : XK} {t1 t2 t3 t4 : TE} {x1 x3 x4 : V} {xs : List V} (h1 : Ev t1 σ H x1) (h2 : EvL t2 σ H xs) (h3 : ∀ H1, Ex H H1 → Ev t3 σ H1 x3) (h4 : ∀ H1, Ex H H1 → Ev t4 σ H1 x4) (k : ∀ c H1, H c = none → Ex H H1 → H1 c = some (.lst xs) → sp [x1, .ref c, x3, x4] H1 (fun _ H2 => D.nx σ H2) E) : tDrop (tCall sp [] E (tCons t1 (tCons t2 (tCons t3 (tCons t4 tNil))))) D σ H :=
  h1 H (Ex.refl _) _ fun H1 e1 => h2 H1 e1 _ fun c H2 nc e2 hc => h3 H2 (e1.trans e2) H2 (Ex.refl _) _ fun H3 e3 => h4 H3 ((e1.trans e2).trans e3) H3 (Ex.refl _) _ fun H4 e4 => k c H4 (fresh_back e1 nc) (((e1.trans e2).trans e3).trans e4) ((e3.trans e4) c _ hc)
end
section
variable {K : PySem.W.Frag} {σ : L2.St} {H : Hp} {D : Ends} {tz : TS}
/-- i = f(e), e data -/
theorem q_callQL {sp : Sp} {E : XK} {t1 : TE} {d : PyData} {i : Nat} {dvs : List V} (h1 : EvQ K t1 σ H d) (k : ∀ v H1, Ex H H1 → Dp K H1 v d → sp ([v] ++ dvs) H1 (fun x H2 => tz D (σ.set i (some x)) H2) E) : tSeq (tAsg (tCall sp dvs E (tCons t1 tNil)) (gName i)) tz D σ H := h1 H (Ex.refl H) _ k
end
section
variable {K : PySem.W.Frag} {σ : L2.St} {H : Hp} {ta tb : TE}
theorem ev_neQ {d e : PyData} {b : Bool} (h : EvQ K ta σ H d) (h2 : ∀ H1, Ex H H1 → EvD K tb σ H1 e) (pd : plD d = true) (pe : plD e = true) (nd : d.depth ≤ 64) (ne : e.depth ≤ 64) (hb : b = true ↔ d = e) : Ev (tOp (rNeD K) ta tb) σ H (.bl (!b)) := fun H1 ex Q q =>
  h H1 ex _ fun v H2 e2 hv => h2 H2 (ex.trans e2) H2 (Ex.refl _) _ fun w H3 e3 hw => ⟨d, e, dp_mono e3 _ _ hv, dp_mono (nw_ex (Ex.refl _) e3) _ _ hw, shaped_of pd nd, shaped_of pe ne, by rw [eqv_dec pd pe hb]; exact q H3 (e2.trans e3)⟩
theorem ev_eqQ {d e : PyData} {b : Bool} (h : EvQ K ta σ H d) (h2 : ∀ H1, Ex H H1 → EvD K tb σ H1 e) (pd : plD d = true) (pe : plD e = true) (nd : d.depth ≤ 64) (ne : e.depth ≤ 64) (hb : b = true ↔ d = e) : Ev (tOp (rEqD K) ta tb) σ H (.bl b) := fun H1 ex Q q =>
  h H1 ex _ fun v H2 e2 hv => h2 H2 (ex.trans e2) H2 (Ex.refl _) _ fun w H3 e3 hw => ⟨d, e, dp_mono e3 _ _ hv, dp_mono (nw_ex (Ex.refl _) e3) _ _ hw, shaped_of pd nd, shaped_of pe ne, by rw [eqv_dec pd pe hb]; exact q H3 (e2.trans e3)⟩
end
end My
set_option maxHeartbeats 2000000
/-! slices of lists with a step -/
namespace My
open PySem PySem.Spec PyProof.Rows L2 Evl Mm
theorem vals_at {xs : List V} {its : List Value} (h : Vals xs its) : ∀ i : Nat, (xs[i]? = none ∧ its[i]? = none) ∨ ∃ x u, xs[i]? = some x ∧ its[i]? = some u ∧ RelV x u := by
  induction h with
  | nil => intro i; exact .inl ⟨rfl, rfl⟩
  | cons r _ ih =>
    intro i
    cases i with
    | zero => exact .inr ⟨_, _, rfl, rfl, r⟩
    | succ i => exact ih i
theorem vals_pick {xs : List V} {its : List Value} (h : Vals xs its) : ∀ L : List Nat, Vals (L.filterMap fun i => xs[i]?) (L.filterMap fun i => its[i]?)
  | [] => .nil
  | i :: L => by
    rw [List.filterMap_cons, List.filterMap_cons]
    rcases vals_at h i with ⟨h1, h2⟩ | ⟨x, u, h1, h2, r⟩
    · rw [h1, h2]; exact vals_pick h L
    · rw [h1, h2]; exact .cons r (vals_pick h L)
def rng3 (n : Nat) (lo hi st : Option Int) : List Nat := sliceRange (sliceBounds lo hi st n).1 (sliceBounds lo hi st n).2.1 (sliceBounds lo hi st n).2.2
def cut3 (xs : List V) (lo hi st : Option Int) : List V := (rng3 xs.length lo hi st).filterMap fun i => xs[i]?
def tSl3 (K : PySem.W.Frag) (te : TE) (tl th ts : TO) : TE := fun σ H Q => te σ H fun x H1 => tl σ H1 fun lo H2 => th σ H2 fun hi H3 => ts σ H3 fun st H4 => ∃ a xs, x = .ref a ∧ SqL K H4 a xs ∧ st ≠ some 0 ∧ (cut3 xs lo hi st).length ≤ sizeLine ∧ ∀ p, H4 p = none → Q (.ref p) (upd H4 p (.lst (cut3 xs lo hi st)))
theorem pe_slice3 {X : Cx} {e : Expr} {te : TE} {lo hi : Option Expr} {st : Expr} {tl th ts : TO} {pos p2 : Pos} (he : PE X e te) (hl : PO X lo tl) (hh : PO X hi th) (hs : PO X (some st) ts) : PE X (.Subscript e (.Slice lo hi (some st) p2) pos) (tSl3 X.K te tl th ts) := by
  refine ⟨fun pins s σ H Q I h => ?_⟩
  refine Subscript_ (thn (he.run pins s σ H _ I h) fun v s1 ⟨x, H1, I1, rx, h1⟩ => wpAny_Slice (thn (hl.run pins s1 σ H1 _ I1 h1) fun l s2 ⟨lo, H2, I2, pl, h2⟩ => thn (hh.run pins s2 σ H2 _ I2 h2) fun u s3 ⟨hi, H3, I3, pu, h3⟩ => thn (hs.run pins s3 σ H3 _ I3 h3) fun t s4 ⟨st, H4, I4, ps, h4⟩ => ?_))
  obtain ⟨a, xs, rfl, hx, h0, hz, q⟩ := h4
  cases rx
  obtain ⟨its, rv, p1, hle⟩ := I4.list hx
  have hlen : xs.length = its.length := Paired.length rv
  have I5 := I4.kept (t' := s4.toks) (h' := s4.heap.push { cls := .type "slice", data := .fields #[l, u, t] }) (fun b o hb => Heap.get?_push_of_some _ hb)
  have hL : (s4.heap.push { cls := .type "slice", data := .fields #[l, u, t] }).IsList a its.toArray := by
    obtain ⟨o, n, h1, h2, h3, h4⟩ := p1
    exact Heap.IsList.push (show s4.heap.IsList a its.toArray from PlainL.isList ⟨o, n, h1, h2, h3, h4⟩) _
  have hsl : (s4.heap.push { cls := .type "slice", data := .fields #[l, u, t] }).IsSliceOf s4.heap.objs.size l u t := ⟨_, Heap.get?_push_size _ rfl, rfl, rfl⟩
  refine tail_any (T := "list") (id := "list.__getitem__") ?_ PySem.F.slot_list_getitem.lookup ?_ rfl
  · obtain ⟨o, n, h1, h2, h3, h4⟩ := p1
    exact ⟨o, Heap.get?_push_of_some _ h1, h2⟩
  · refine wpAny_getItem_list_slice hL hsl pl pu ps h0 ?_ (by show its.toArray.size ≤ sizeLine; rw [List.size_toArray, ← hlen]; exact hle)
    have hpk : slicePick its.toArray lo hi st = ((rng3 xs.length lo hi st).filterMap fun i => its[i]?).toArray := by
      unfold slicePick rng3
      rw [List.size_toArray, hlen]
      congr 2
      funext i
      simp
    rw [hpk]
    have hfr := I5.fresh
    refine ⟨.ref _, _, I5.laid (fun b o hb => Heap.get?_push_of_some _ hb) (Nat.le_refl _) ?_, rfl, q _ hfr⟩
    exact ⟨hz, _, _, vals_pick rv _, Heap.get?_push_size _ rfl⟩
theorem pe_slice3K {X : Cx} {K : PySem.W.Frag} (hK : X.K = K) {e : Expr} {te : TE} {lo hi : Option Expr} {st : Expr} {tl th ts : TO} {pos p2 : Pos} (he : PE X e te) (hl : PO X lo tl) (hh : PO X hi th) (hs : PO X (some st) ts) : PE X (.Subscript e (.Slice lo hi (some st) p2) pos) (tSl3 K te tl th ts) := hK ▸ pe_slice3 he hl hh hs
end My
/-! the drawn listed squares of the laws about trees -/
namespace Mm
def plain9 (kind : Nat) : Nat × List (List Int) :=
  if kind < 6 then (kind + 1, mkRows (kind + 1) fun r c => ((r : Int) + c) % ((kind + 1 : Nat) : Int))
  else if kind = 6 then (5, mkRows 5 fun r c => ((r : Int) + 2 * c) % 5)
  else if kind = 7 then (5, [[0, 1, 2, 3, 4], [1, 0, 3, 4, 2], [2, 4, 0, 1, 3], [3, 2, 4, 0, 1], [4, 3, 1, 2, 0]])
  else (6, [[0, 1, 2, 3, 4, 5], [1, 2, 0, 4, 5, 3], [2, 0, 1, 5, 3, 4], [3, 5, 4, 0, 2, 1], [4, 3, 5, 1, 0, 2], [5, 4, 3, 2, 1, 0]])
theorem plain9_all : (List.range 9).all (fun k => latB (plain9 k).1 (plain9 k).2 && decide (1 ≤ (plain9 k).1) && decide ((plain9 k).1 ≤ 6)) = true := by decide +kernel
theorem plain9_lat {k : Nat} (h : k < 9) : Lat (plain9 k).1 (plain9 k).2 ∧ 1 ≤ (plain9 k).1 ∧ (plain9 k).1 ≤ 6 := by
  have := List.all_eq_true.mp plain9_all k (List.mem_range.mpr h)
  simp only [Bool.and_eq_true, decide_eq_true_eq] at this
  exact ⟨lat_of this.1.1, this.1.2, this.2⟩
theorem erase_perm : ∀ (l : List Int) (i : Nat), i < l.length → (l.getD i 0 :: l.eraseIdx i).Perm l
  | [], i, h => by simp at h
  | x :: l, 0, h => List.Perm.refl _
  | x :: l, i + 1, h => by
    have ih := erase_perm l i (by simpa using h)
    show (l.getD i 0 :: x :: l.eraseIdx i).Perm (x :: l)
    exact (List.Perm.swap _ _ _).trans (ih.cons x)
theorem perm_pop {f l a : List Int} {i : Nat} (h : (f ++ l).Perm a) (hi : i < l.length) : ((f ++ [l.getD i 0]) ++ l.eraseIdx i).Perm a := by
  refine List.Perm.trans ?_ h
  rw [List.append_assoc]
  exact List.Perm.append_left f (erase_perm l i hi)
/-- columns of rows that have all: all signs exactly if no two are alike -/
theorem lat_cols {n : Nat} {rows : List (List Int)} (hl : rows.length = n) (hr : ∀ r, r < n → (rows.getD r []).Perm (iota n)) (hc : ∀ c r k, c < n → r < n → k < r → cel rows r c ≠ cel rows k c) : Lat n rows := by
  refine ⟨hl, hr, fun c hcn => ?_⟩
  refine perm_of ?_ (by unfold col; rw [List.length_map, List.length_range, hl]) fun x hx => ?_
  · unfold col
    refine List.pairwise_map.mpr (List.pairwise_iff_getElem.mpr fun i j hi hj hij => ?_)
    rw [List.length_range, hl] at hj
    rw [List.getElem_range, List.getElem_range]
    exact fun z => hc c j i hcn hj hij z.symm
  · unfold col at hx
    obtain ⟨r, hr2, rfl⟩ := List.mem_map.mp hx
    have hr3 := List.mem_range.mp hr2
    exact perm_in (hr r (by omega)) hcn
theorem lat_ne {n : Nat} {rows : List (List Int)} (L : Lat n rows) {c r k : Nat} (hc : c < n) (hr : r < n) (hk : k < r) : cel rows r c ≠ cel rows k c := by
  have h := L.col c hc
  have hd : (col rows c).Nodup := (h.nodup_iff).mpr (iota_nodup n)
  unfold col at hd
  have h2 := List.pairwise_iff_getElem.mp (List.pairwise_map.mp hd) k r (by rw [List.length_range, L.len]; omega) (by rw [List.length_range, L.len]; exact hr) hk
  rw [List.getElem_range, List.getElem_range] at h2
  exact fun z => h2 z.symm
end Mm
/-! a search by trying numbers below n at N places, one behind the other -/
namespace Mm
section
variable (ft : List Nat → Nat → Bool) (n N : Nat)
def gev : Nat → List Nat → List Evt
  | 0, cols => [.leaf cols]
  | d + 1, cols => (List.range n).flatMap fun k => if ft cols k then .put :: gev d (cols ++ [k]) else []
def gsib (d : Nat) (cols : List Nat) (c : Nat) : List Evt := (List.range' c (n - c)).flatMap fun k => if ft cols k then .put :: gev ft n d (cols ++ [k]) else []
def grest : List Nat → Nat → List Evt
  | [], c => gsib ft n (N - 1) [] c
  | l :: rc, c => gsib ft n (N - (rc.length + 1) - 1) (l :: rc).reverse c ++ grest rc (l + 1)
end
section
variable {ft : List Nat → Nat → Bool} {n N : Nat}
theorem grest_eq (rc : List Nat) (c : Nat) : grest ft n N rc c = gsib ft n (N - rc.length - 1) rc.reverse c ++ (match rc with | [] => [] | l :: r => grest ft n N r (l + 1)) := by
  cases rc with
  | nil => show gsib ft n (N - 1) [] c = _; rw [List.append_nil]; rfl
  | cons l r => rfl
theorem gev_sib (d : Nat) (cols : List Nat) : gev ft n (d + 1) cols = gsib ft n d cols 0 := by
  unfold gsib
  rw [gev, Nat.sub_zero, List.range_eq_range']
theorem gsib_none {d : Nat} {cols : List Nat} {c : Nat} (h : ∀ j, c ≤ j → j < n → ft cols j = false) : gsib ft n d cols c = [] := by
  unfold gsib
  rw [List.flatMap_eq_nil_iff]
  intro k hk
  have := List.mem_range'_1.mp hk
  rw [h k (by omega) (by omega)]; rfl
theorem gsib_fit {d : Nat} {cols : List Nat} {c k : Nat} (hc : c ≤ k) (hk : k < n) (hf : ft cols k = true) (h : ∀ j, c ≤ j → j < k → ft cols j = false) :
    gsib ft n d cols c = .put :: (gev ft n d (cols ++ [k]) ++ gsib ft n d cols (k + 1)) := by
  unfold gsib
  have e : List.range' c (n - c) = List.range' c (k - c) ++ (k :: List.range' (k + 1) (n - (k + 1))) := by
    have h1 : n - c = (k - c) + (n - k) := by omega
    have h2 : n - k = (n - (k + 1)) + 1 := by omega
    have h3 : c + 1 * (k - c) = k := by omega
    rw [h1, ← List.range'_append (s := c) (m := k - c) (n := n - k) (step := 1), h3, h2, List.range'_succ]
  rw [e, List.flatMap_append, List.flatMap_cons]
  have e2 : (List.range' c (k - c)).flatMap (fun k => if ft cols k then Evt.put :: gev ft n d (cols ++ [k]) else []) = [] := by
    rw [List.flatMap_eq_nil_iff]
    intro j hj
    have := List.mem_range'_1.mp hj
    rw [h j (by omega) (by omega)]; rfl
  rw [e2, if_pos hf]
  rfl
theorem grest_total (hn : 1 ≤ N) : grest ft n N [] 0 = gev ft n N [] := by
  obtain ⟨d, rfl⟩ : ∃ d, N = d + 1 := ⟨N - 1, by omega⟩
  rw [gev_sib]; rfl
theorem grest_none {l : Nat} {rc : List Nat} {c : Nat} (h : ∀ j, c ≤ j → j < n → ft (l :: rc).reverse j = false) : grest ft n N (l :: rc) c = grest ft n N rc (l + 1) := by
  show gsib ft n _ (l :: rc).reverse c ++ _ = _
  rw [gsib_none h]; rfl
theorem grest_end {c : Nat} (h : ∀ j, c ≤ j → j < n → ft [] j = false) : grest ft n N [] c = [] := gsib_none h
theorem grest_leaf {rc : List Nat} {c k : Nat} (hr : rc.length + 1 = N) (hc : c ≤ k) (hk : k < n) (hf : ft rc.reverse k = true) (h : ∀ j, c ≤ j → j < k → ft rc.reverse j = false) :
    grest ft n N rc c = .put :: .leaf (rc.reverse ++ [k]) :: grest ft n N rc (k + 1) := by
  rw [grest_eq, grest_eq rc (k + 1), gsib_fit hc hk hf h]
  have : N - rc.length - 1 = 0 := by omega
  rw [this, gev]; rfl
theorem grest_put {rc : List Nat} {c k : Nat} (hr : rc.length + 1 < N) (hc : c ≤ k) (hk : k < n) (hf : ft rc.reverse k = true) (h : ∀ j, c ≤ j → j < k → ft rc.reverse j = false) :
    grest ft n N rc c = .put :: grest ft n N (k :: rc) 0 := by
  rw [grest_eq, gsib_fit hc hk hf h]
  obtain ⟨d, hd⟩ : ∃ d, N - rc.length - 1 = d + 1 := ⟨N - rc.length - 2, by omega⟩
  show Evt.put :: ((gev ft n (N - rc.length - 1) (rc.reverse ++ [k]) ++ gsib ft n (N - rc.length - 1) rc.reverse (k + 1)) ++ _) = Evt.put :: (gsib ft n (N - (rc.length + 1) - 1) (k :: rc).reverse 0 ++ grest ft n N rc (k + 1))
  have hd2 : N - (rc.length + 1) - 1 = d := by omega
  rw [grest_eq rc (k + 1), hd, hd2, gev_sib, List.reverse_cons, List.append_assoc]
/-- how many are put at most -/
def pwb (n : Nat) : Nat → Nat
  | 0 => 0
  | d + 1 => n * (pwb n d + 1)
theorem gputs_le : ∀ (d : Nat) (cols : List Nat), puts (gev ft n d cols) ≤ pwb n d
  | 0, cols => Nat.le_refl _
  | d + 1, cols => by
    rw [gev]
    refine Nat.le_trans (puts_flat _ (ft cols) (fun k => .put :: gev ft n d (cols ++ [k])) (pwb n d + 1) fun k hk hf => ?_) ?_
    · have := gputs_le d (cols ++ [k])
      show puts _ + 1 ≤ _
      omega
    · have := List.length_filter_le (ft cols) (List.range n)
      rw [List.length_range] at this
      exact Nat.mul_le_mul_right _ this
theorem pwb_mono {a b : Nat} (h : a ≤ b) : ∀ d e, d ≤ e → pwb a d ≤ pwb b e
  | 0, e, _ => Nat.zero_le _
  | d + 1, e, he => by
    obtain ⟨e', rfl⟩ : ∃ e', e = e' + 1 := ⟨e - 1, by omega⟩
    exact Nat.mul_le_mul h (Nat.succ_le_succ (pwb_mono h d e' (by omega)))
/-- a place found: all that stand ahead fit -/
def Fit (ft : List Nat → Nat → Bool) (n : Nat) (ch : List Nat) : Prop := ∀ m, m < ch.length → ft (ch.take m) (ch.getD m 0) = true ∧ ch.getD m 0 < n
theorem fit_snoc {ch : List Nat} {k : Nat} (h : Fit ft n ch) (hf : ft ch k = true) (hk : k < n) : Fit ft n (ch ++ [k]) := fun m hm => by
  rw [List.length_append, List.length_singleton] at hm
  rcases Nat.lt_or_ge m ch.length with h1 | h1
  · rw [List.take_append_of_le_length (by omega), List.getD_eq_getElem?_getD, List.getElem?_append_left h1, ← List.getD_eq_getElem?_getD]
    exact h m h1
  · have : m = ch.length := by omega
    subst this
    rw [List.take_left, List.getD_eq_getElem?_getD, List.getElem?_append_right (Nat.le_refl _), Nat.sub_self]
    exact ⟨hf, hk⟩
theorem gleaf_fit : ∀ (d : Nat) (cols : List Nat), Fit ft n cols → ∀ l ∈ leaves (gev ft n d cols), Fit ft n l ∧ l.length = cols.length + d
  | 0, cols, h, l, hl => by
    have : l = cols := List.mem_singleton.mp hl
    rw [this]; exact ⟨h, rfl⟩
  | d + 1, cols, h, l, hl => by
    rw [gev, leaves_flat] at hl
    obtain ⟨k, hk, hl2⟩ := List.mem_flatMap.mp hl
    cases hf : ft cols k with
    | false => rw [if_neg (by rw [hf]; decide)] at hl2; cases hl2
    | true =>
      rw [if_pos hf] at hl2
      obtain ⟨h1, h2⟩ := gleaf_fit d (cols ++ [k]) (fit_snoc h hf (List.mem_range.mp hk)) l hl2
      refine ⟨h1, ?_⟩
      rw [h2, List.length_append, List.length_singleton]; omega
end
/-! ### mates: the transversals, one behind the other -/
def colsOf (n : Nat) (ch : List Nat) : List Nat := ch.drop (ch.length / n * n)
/-- the columns of a row in the transversals that are told -/
def psOf (n : Nat) (ch : List Nat) (r : Nat) : List Nat := (List.range (if r < ch.length % n then ch.length / n + 1 else ch.length / n)).map fun a => ch.getD (a * n + r) 0
def mft (n : Nat) (rows : List (List Int)) (ch : List Nat) (c : Nat) : Bool :=
  if ch.length % n = 0 then c == ch.length / n
  else !(colsOf n ch).contains c && !(psOf n ch (ch.length % n)).contains c && !(signsOf rows (colsOf n ch)).contains (cel rows (ch.length % n) c)
/-- numbers at columns, told one behind the other -/
def rowA {α : Type} (g : Nat → α) (acc : List α) (k : Nat) : List Nat → List α
  | [] => acc
  | p :: ps => rowA g (acc.set p (g k)) (k + 1) ps
theorem rowA_snoc {α : Type} (g : Nat → α) : ∀ (ps : List Nat) (acc : List α) (k p : Nat), rowA g acc k (ps ++ [p]) = (rowA g acc k ps).set p (g (k + ps.length))
  | [], acc, k, p => rfl
  | q :: ps, acc, k, p => by
    show rowA g (acc.set q (g k)) (k + 1) (ps ++ [p]) = _
    rw [rowA_snoc g ps]
    show _ = (rowA g (acc.set q (g k)) (k + 1) ps).set p (g (k + (ps.length + 1)))
    rw [show k + 1 + ps.length = k + (ps.length + 1) by omega]
theorem rowA_len {α : Type} (g : Nat → α) : ∀ (ps : List Nat) (acc : List α) (k : Nat), (rowA g acc k ps).length = acc.length
  | [], acc, k => rfl
  | q :: ps, acc, k => by
    show (rowA g (acc.set q (g k)) (k + 1) ps).length = _
    rw [rowA_len g ps, List.length_set]
def rowN {α : Type} (g : Nat → α) (z : α) (n : Nat) (ps : List Nat) : List α := rowA g (List.replicate n z) 0 ps
theorem rowN_len {α : Type} (g : Nat → α) (z : α) (n : Nat) (ps : List Nat) : (rowN g z n ps).length = n := by unfold rowN; rw [rowA_len, List.length_replicate]
theorem rowN_snoc {α : Type} (g : Nat → α) (z : α) (n : Nat) (ps : List Nat) (p : Nat) : rowN g z n (ps ++ [p]) = (rowN g z n ps).set p (g ps.length) := by unfold rowN; rw [rowA_snoc, Nat.zero_add]
theorem list_rev {α : Type} {P : List α → Prop} (h0 : P []) (h1 : ∀ l x, P l → P (l ++ [x])) : ∀ l, P l := fun l => by
  have : ∀ l : List α, P l.reverse := fun l => by
    induction l with
    | nil => exact h0
    | cons x l ih => rw [List.reverse_cons]; exact h1 _ _ ih
  have h2 := this l.reverse
  rwa [List.reverse_reverse] at h2
theorem rowN_not {α : Type} (g : Nat → α) (z : α) (n : Nat) : ∀ ps : List Nat, ∀ c, c < n → c ∉ ps → (rowN g z n ps)[c]? = some z := by
  refine list_rev ?_ ?_
  · intro c hc _
    show (List.replicate n z)[c]? = _
    rw [List.getElem?_replicate, if_pos hc]
  · intro ps p ih c hc hn
    rw [rowN_snoc, List.getElem?_set_ne (fun h => hn (by rw [← h]; exact List.mem_append_right _ (List.mem_singleton.mpr rfl)))]
    exact ih c hc fun h => hn (List.mem_append_left _ h)
/-- at a column that is told: the last number there -/
theorem rowN_in {α : Type} (g : Nat → α) (z : α) (n : Nat) : ∀ ps : List Nat, ∀ c, c < n → c ∈ ps → ∃ a, a < ps.length ∧ ps.getD a 0 = c ∧ (rowN g z n ps)[c]? = some (g a) ∧ ∀ {β : Type} (g' : Nat → β) (z' : β), (rowN g' z' n ps)[c]? = some (g' a) := by
  refine list_rev ?_ ?_
  · intro c _ h; cases h
  · intro ps p ih c hc hin
    by_cases hp : p = c
    · have key : ∀ {β : Type} (g' : Nat → β) (z' : β), (rowN g' z' n (ps ++ [p]))[c]? = some (g' ps.length) := fun {β} g' z' => by
        rw [rowN_snoc, hp, List.getElem?_set_self (by rw [rowN_len]; exact hc)]
      refine ⟨ps.length, by rw [List.length_append]; exact Nat.lt_succ_self _, ?_, key g z, key⟩
      rw [List.getD_eq_getElem?_getD, List.getElem?_append_right (Nat.le_refl _), Nat.sub_self]
      exact hp
    · have hin2 : c ∈ ps := by
        rcases List.mem_append.mp hin with h | h
        · exact h
        · exact absurd (List.mem_singleton.mp h).symm hp
      obtain ⟨a, h1, h2, h3, h4⟩ := ih c hc hin2
      refine ⟨a, by rw [List.length_append]; exact Nat.lt_succ_of_lt h1, ?_, ?_, fun {β} g' z' => ?_⟩
      · rw [List.getD_eq_getElem?_getD, List.getElem?_append_left h1, ← List.getD_eq_getElem?_getD]; exact h2
      · rw [rowN_snoc, List.getElem?_set_ne hp]; exact h3
      · rw [rowN_snoc, List.getElem?_set_ne hp]; exact h4 g' z'
theorem psOf_len (n : Nat) (ch : List Nat) (r : Nat) : (psOf n ch r).length = if r < ch.length % n then ch.length / n + 1 else ch.length / n := by unfold psOf; rw [List.length_map, List.length_range]
theorem psOf_get {n : Nat} {ch : List Nat} {r a : Nat} (h : a < (psOf n ch r).length) : (psOf n ch r).getD a 0 = ch.getD (a * n + r) 0 := by
  rw [psOf_len] at h
  unfold psOf
  rw [List.getD_eq_getElem?_getD, List.getElem?_map, List.getElem?_range h]; rfl
theorem psOf_mem {n : Nat} {ch : List Nat} {r c : Nat} : c ∈ psOf n ch r ↔ ∃ a, a < (psOf n ch r).length ∧ ch.getD (a * n + r) 0 = c := by
  rw [psOf_len]
  unfold psOf
  rw [List.mem_map]
  constructor
  · rintro ⟨a, ha, h⟩; exact ⟨a, List.mem_range.mp ha, h⟩
  · rintro ⟨a, ha, h⟩; exact ⟨a, List.mem_range.mpr ha, h⟩
/-- one more column: at its own row one more, the other rows as they were -/
theorem psOf_snoc {n : Nat} {ch : List Nat} {k r : Nat} (hn : 0 < n) (hr : r < n) : psOf n (ch ++ [k]) r = if r = ch.length % n then psOf n ch r ++ [k] else psOf n ch r := by
  have hdm := Nat.div_add_mod ch.length n
  have hml := Nat.mod_lt ch.length hn
  have hlen : (ch ++ [k]).length = ch.length + 1 := by rw [List.length_append]; rfl
  have hcnt : (if r < (ch.length + 1) % n then (ch.length + 1) / n + 1 else (ch.length + 1) / n) = (if r < ch.length % n then ch.length / n + 1 else ch.length / n) + (if r = ch.length % n then 1 else 0) := by
    by_cases hz : ch.length % n + 1 = n
    · have h1 : (ch.length + 1) % n = 0 := by
        have : ch.length + 1 = n * (ch.length / n + 1) := by rw [Nat.mul_add, Nat.mul_one]; omega
        rw [this, Nat.mul_mod_right]
      have h2 : (ch.length + 1) / n = ch.length / n + 1 := by
        have : ch.length + 1 = n * (ch.length / n + 1) := by rw [Nat.mul_add, Nat.mul_one]; omega
        rw [this, Nat.mul_div_cancel_left _ hn]
      rw [h1, h2, if_neg (by omega)]
      by_cases h3 : r = ch.length % n
      · rw [if_pos h3, if_neg (by omega)]
      · rw [if_neg h3, if_pos (by omega)]
    · have h0 : ch.length + 1 = (ch.length % n + 1) + n * (ch.length / n) := by omega
      have h1 : (ch.length + 1) % n = ch.length % n + 1 := by rw [h0, Nat.add_mul_mod_self_left, Nat.mod_eq_of_lt (by omega)]
      have h2 : (ch.length + 1) / n = ch.length / n := by
        conv => lhs; rw [h0]
        rw [Nat.add_mul_div_left _ _ hn, Nat.div_eq_of_lt (by omega), Nat.zero_add]
      rw [h1, h2]
      by_cases h3 : r = ch.length % n
      · rw [if_pos h3, if_pos (by omega), if_neg (by omega)]
      · rw [if_neg h3]
        by_cases h4 : r < ch.length % n
        · rw [if_pos h4, if_pos (by omega)]
        · rw [if_neg h4, if_neg (by omega), Nat.add_zero]
  have hold : ∀ a, a < (if r < ch.length % n then ch.length / n + 1 else ch.length / n) → (ch ++ [k]).getD (a * n + r) 0 = ch.getD (a * n + r) 0 := fun a ha => by
    have hlt : a * n + r < ch.length := by
      by_cases h4 : r < ch.length % n
      · rw [if_pos h4] at ha
        have := Nat.mul_le_mul_right n (show a ≤ ch.length / n by omega)
        rw [Nat.mul_comm (ch.length / n) n] at this
        omega
      · rw [if_neg h4] at ha
        have := Nat.mul_le_mul_right n (show a + 1 ≤ ch.length / n by omega)
        rw [Nat.mul_comm (ch.length / n) n, Nat.add_mul] at this
        omega
    rw [List.getD_eq_getElem?_getD, List.getElem?_append_left hlt, ← List.getD_eq_getElem?_getD]
  unfold psOf
  rw [hlen, hcnt]
  by_cases h3 : r = ch.length % n
  · rw [if_pos h3, if_pos h3, List.range_succ, List.map_append]
    congr 1
    · exact List.map_congr_left fun a ha => hold a (List.mem_range.mp ha)
    · show [_] = [k]
      congr 1
      rw [if_neg (by omega)]
      show (ch ++ [k]).getD (ch.length / n * n + r) 0 = k
      have : ch.length / n * n + r = ch.length := by rw [h3, Nat.mul_comm]; exact hdm
      rw [this, List.getD_eq_getElem?_getD, List.getElem?_append_right (Nat.le_refl _), Nat.sub_self]; rfl
  · rw [if_neg h3, if_neg h3, Nat.add_zero]
    exact List.map_congr_left fun a ha => hold a (List.mem_range.mp ha)
end Mm
set_option maxHeartbeats 2000000
/-! lists of lists of their own, of any values -/
namespace My
open PySem PySem.Spec PyProof.Rows L2 Evl Mm
structure RV (H0 H' : Hp) (o : Addr) (bs : List Addr) (n : Nat) (F : Nat → List V) : Prop where
  ex : Ex H0 H'
  no : H0 o = none
  nb : ∀ b ∈ bs, H0 b = none
  is : H' o = some (.lst (bs.map V.ref))
  len : bs.length = n
  row : ∀ (i : Nat) (b : Addr), bs[i]? = some b → H' b = some (.lst (F i))
  nd : bs.Nodup
  ap : o ∉ bs
theorem RV.up {H0 H' H1 : Hp} {o : Addr} {bs : List Addr} {n : Nat} {F : Nat → List V} (A : RV H0 H' o bs n F) (e : Ex H' H1) : RV H0 H1 o bs n F :=
  ⟨A.ex.trans e, A.no, A.nb, e o _ A.is, A.len, fun i b h => e b _ (A.row i b h), A.nd, A.ap⟩
theorem RV.set {H0 H' H1 : Hp} {o : Addr} {bs : List Addr} {n r : Nat} {F F' : Nat → List V} {b : Addr} (A : RV H0 H' o bs n F) (e : Ex H' H1) (hb : bs[r]? = some b) (hF : ∀ i, i < n → i ≠ r → F' i = F i) : RV H0 (upd H1 b (.lst (F' r))) o bs n F' := by
  have B := A.up e
  have hbm := List.mem_of_getElem? hb
  have hbo : o ≠ b := fun z => A.ap (z ▸ hbm)
  refine ⟨B.ex.mut (A.nb b hbm), A.no, A.nb, by rw [upd_ne hbo]; exact B.is, A.len, fun i c hc => ?_, A.nd, A.ap⟩
  by_cases hi : i = r
  · subst hi
    rw [hb] at hc
    cases hc
    exact upd_same
  · have hcb : c ≠ b := fun z => hi (nd_inj A.nd hc (z ▸ hb))
    rw [upd_ne hcb, hF i (by have := (List.getElem?_eq_some_iff.mp hc).1; have := A.len; omega) hi]
    exact B.row i c hc
theorem RV.at {H0 H' : Hp} {o : Addr} {bs : List Addr} {n r : Nat} {F : Nat → List V} (A : RV H0 H' o bs n F) (h : r < n) : ∃ b, bs[r]? = some b ∧ H' b = some (.lst (F r)) := by
  have hl := A.len
  exact ⟨bs[r], List.getElem?_eq_getElem (by omega), A.row r _ (List.getElem?_eq_getElem (by omega))⟩
section
variable {K : PySem.W.Frag} {σ : L2.St} {H : Hp} {ta tb tc te tl : TE} {x y v : V} {D : Ends} {tz : TS}
theorem lc_rowsV {Q : VK} {wi : TI} {J : It} {n j : Nat} {G : Hp → Prop} {Y : Nat → Hp → V → Hp → Prop} {vs : List Nat} (F : Nat → List V) (h : Gets wi σ H J) (w : Walk J n G Y) (hG : ∀ H', Ex H H' → G H') (hy : ∀ i H1 x H2, Y i H1 x H2 → H2 = H1) (hn : n ≤ 40000) (hw : ∀ x, wipe ((wipe σ vs).set j (some x)) vs = wipe σ vs)
    (he : ∀ (m : Nat) (x : V) (H' : Hp), m < n → Ex H H' → Y m H' x H' → EvL te ((wipe σ vs).set j (some x)) H' (F m)) (k : ∀ o bs H1, RV H H1 o bs n F → Q (.ref o) H1) : tLc wi (gName j) tYes te vs σ H Q := by
  refine lcW h w (fun D m H' => ∃ bs : List Addr, Ex H H' ∧ H D = none ∧ H' D = some (.lst (bs.map V.ref)) ∧ bs.length = m ∧ (∀ (j : Nat) (b : Addr), bs[j]? = some b → H' b = some (.lst (F j)) ∧ H b = none) ∧ bs.Nodup ∧ D ∉ bs) (fun D H1 e1 hD => ?_) (fun D m H' _ p => ?_) (fun D m x H' H2 hm p yy => ?_) (fun D H' p => ?_)
  · exact ⟨[], e1.mut (fresh_back e1 hD), fresh_back e1 hD, upd_same, rfl, fun j b h => by simp at h, List.nodup_nil, List.not_mem_nil⟩
  · obtain ⟨bs, e, _⟩ := p; exact hG _ e
  · obtain ⟨bs, e, hD0, hD, hl, hr, nd, nD⟩ := p
    obtain rfl := hy _ _ _ _ yy
    refine ⟨hw x, et_yes _ (Ex.refl _) _ fun H3 e3 => ?_⟩
    rw [if_pos rfl]
    refine he m x _ hm e yy H3 e3 _ fun p H4 np e4 hp => ?_
    have hD4 := e4 D _ (e3 D _ hD)
    have pD : p ≠ D := fun z => by rw [z, e3 D _ hD] at np; cases np
    have pb : p ∉ bs := fun z => by
      obtain ⟨q, hq, h5⟩ := List.mem_iff_getElem.mp z
      have := (hr q p (by rw [List.getElem?_eq_getElem hq, h5])).1
      rw [e3 p _ this] at np; cases np
    refine ⟨_, hD4, sz_lt (by rw [List.length_map]; omega), bs ++ [p], ((e.trans e3).trans e4).mut hD0, hD0, by rw [upd_same, List.map_append]; rfl, by rw [List.length_append, hl]; rfl, fun q c hc => ?_, ?_, fun z => ?_⟩
    · have hcD : c ≠ D := fun z => by
        rcases List.mem_append.mp (List.mem_of_getElem? hc) with h | h
        · exact nD (z ▸ h)
        · exact pD ((List.mem_singleton.mp h).symm.trans z)
      rw [upd_ne hcD]
      by_cases hq : q < bs.length
      · rw [List.getElem?_append_left hq] at hc
        obtain ⟨h5, h6⟩ := hr q c hc
        exact ⟨e4 c _ (e3 c _ h5), h6⟩
      · rw [List.getElem?_append_right (by omega)] at hc
        have hq0 : q - bs.length = 0 := by
          have := (List.getElem?_eq_some_iff.mp hc).1
          simp at this; omega
        rw [hq0] at hc
        cases hc
        have : q = m := by omega
        rw [this]
        exact ⟨hp, fresh_back (e.trans e3) np⟩
    · rw [List.nodup_append]
      exact ⟨nd, List.nodup_cons.mpr ⟨List.not_mem_nil, List.nodup_nil⟩, fun a ha b hb2 hab => pb (by rw [List.mem_singleton] at hb2; rw [← hb2, ← hab]; exact ha)⟩
    · rcases List.mem_append.mp z with h | h
      · exact nD h
      · exact pD (List.mem_singleton.mp h).symm
  · obtain ⟨bs, e, hD0, hD, hl, hr, nd, nD⟩ := p
    exact k D bs H' ⟨e, hD0, fun b hb => by
      obtain ⟨q, hq, h5⟩ := List.mem_iff_getElem.mp hb
      exact (hr q b (by rw [List.getElem?_eq_getElem hq, h5])).2, hD, hl, fun q b hb => (hr q b hb).1, nd, nD⟩
theorem q_rowsV {wi : TI} {J : It} {n i j : Nat} {G : Hp → Prop} {Y : Nat → Hp → V → Hp → Prop} {vs : List Nat} (F : Nat → List V) (h : Gets wi σ H J) (w : Walk J n G Y) (hG : ∀ H', Ex H H' → G H') (hy : ∀ i H1 x H2, Y i H1 x H2 → H2 = H1) (hn : n ≤ 40000) (hw : ∀ x, wipe ((wipe σ vs).set j (some x)) vs = wipe σ vs)
    (he : ∀ (m : Nat) (x : V) (H' : Hp), m < n → Ex H H' → Y m H' x H' → EvL te ((wipe σ vs).set j (some x)) H' (F m)) (k : ∀ o bs H1, RV H H1 o bs n F → tz D (σ.set i (some (.ref o))) H1) : tSeq (tAsg (tLc wi (gName j) tYes te vs) (gName i)) tz D σ H :=
  lc_rowsV (Q := fun x H1 => tz D (σ.set i (some x)) H1) F h w hG hy hn hw he k
/-- i, j = divmod(a, b) -/
theorem q_divmod {ts : TA} {a b i j : Nat} (h : EvA ts σ H [.int (a : Int), .int (b : Int)]) (hb : 0 < b) (hb2 : b < 1000) (k : ∀ H1, Ex H H1 → tz D ((σ.set i (some (.int ((a / b : Nat) : Int)))).set j (some (.int ((a % b : Nat) : Int)))) H1) :
    tSeq (tAsg (tCB (fun xs H Q => ∃ i j, xs = [V.int i, V.int j] ∧ CDiv i j ∧ ∀ p, H p = none → Q (.ref p) (upd H p (.tup [.int (i / j), .int (i % j)]))) ts) (gTup K 2 (gCons (gName i) (gCons (gName j) gNil)))) tz D σ H :=
  h H (Ex.refl H) _ fun H1 e1 => ⟨(a : Int), (b : Int), rfl, ⟨by omega, by omega⟩, fun p hp => g_pair (st_of upd_same) (k _ (e1.trans (Ex.new hp)))⟩
theorem pe_ckN0 {X : Cx} {k j m : Nat} {sp : Sp} {x kn : Str} {dv : Int} {p pos kpos : Pos} {e f : Expr} {es : List Expr} {t tk : TA} (c : Ck X.prog X.w X.K X.mg X.base k x kn dv m sp) (hr : Room j X.A) (hk : k ≤ j) (hg : Gl X x) (ha : PA X (e :: es) t) (hkw : PK X [⟨some kn, f, kpos⟩] tk)
    (hall : (backToKw pos (keywordEach [⟨some kn, f, kpos⟩] X.env)).all (·.1.isSome) = true := by rfl) (hks : (backToKw pos (keywordEach [⟨some kn, f, kpos⟩] X.env)).filterMap (·.1) = [kn] := by rfl)
    (hdb : (x == ("__debug__" : Str)) = false := by decide) (he : starEach (e :: es) X.env = (false, eval e X.env) :: starEach es X.env := by rfl)
    (hpl : ((backTo pos (starEach (e :: es) X.env)).any (·.1) || (backToKw pos (keywordEach [⟨some kn, f, kpos⟩] X.env)).any (·.1.isNone)) = false := by rfl) :
    PE X (.Call (.Name x p) (e :: es) [⟨some kn, f, kpos⟩] pos) (tCallNS m 1 sp kwV (fun _ => L2.E0) t tk) := by
  obtain ⟨f, fd, ps, ds, F, hm, kp, _, _, hb⟩ := c.ex
  exact pe_callNS F (hr.mono hk) hg hm kp hb (fun σ pins H s e s2 I h => passL pins σ H s e s2 I h) ha hkw hall hks hdb he hpl
end
/-- chosen[r:m:n] -/
theorem cut3_step {ch : List Nat} {n r m : Nat} (hn : 0 < n) (hr : r < n) (hm : m * n + r ≤ ch.length) : cut3 ((natI ch).map V.int) (some (r : Int)) (some ((m * n : Nat) : Int)) (some (n : Int)) = (natI ((List.range m).map fun a => ch.getD (a * n + r) 0)).map V.int := by
  have hlen : ((natI ch).map V.int).length = ch.length := by rw [List.length_map, natI_len]
  have hnp : (n : Int) > 0 := by omega
  have h1 : sliceBounds (some (r : Int)) (some ((m * n : Nat) : Int)) (some (n : Int)) ch.length = ((r : Int), ((m * n : Nat) : Int), (n : Int)) := by
    unfold sliceBounds
    simp only [Option.getD_some]
    have e1 : ¬ ((r : Int) < 0) := by omega
    have e2 : ¬ (((m * n : Nat) : Int) < 0) := by omega
    simp only [if_neg e1, if_neg e2, if_pos hnp]
    refine Prod.ext ?_ (Prod.ext ?_ rfl)
    · show max 0 (min (r : Int) (ch.length : Int)) = (r : Int); omega
    · show max 0 (min ((m * n : Nat) : Int) (ch.length : Int)) = ((m * n : Nat) : Int); omega
  have hcount : (if (r : Int) < ((m * n : Nat) : Int) then (((m * n : Nat) : Int) - (r : Int) + (n : Int) - 1) / (n : Int) else 0).toNat = m := by
    by_cases hm0 : m = 0
    · subst hm0
      rw [if_neg (by rw [Nat.zero_mul]; omega)]; rfl
    · have h2 : n ≤ m * n := Nat.le_mul_of_pos_left n (by omega)
      rw [if_pos (by omega)]
      have h3 : ((m * n : Nat) : Int) - (r : Int) + (n : Int) - 1 = ((n - 1 - r : Nat) : Int) + (m : Int) * (n : Int) := by
        rw [Int.natCast_mul]; omega
      rw [h3, Int.add_mul_ediv_right _ _ (by omega), ← Int.natCast_ediv, Nat.div_eq_of_lt (by omega)]
      omega
  unfold cut3 rng3
  rw [hlen, h1]
  show (sliceRange (r : Int) ((m * n : Nat) : Int) (n : Int)).filterMap _ = _
  unfold sliceRange
  rw [if_pos hnp]
  show List.filterMap _ (List.map _ (List.range (Int.toNat (if (r : Int) < ((m * n : Nat) : Int) then (((m * n : Nat) : Int) - (r : Int) + (n : Int) - 1) / (n : Int) else 0)))) = _
  rw [hcount, List.filterMap_map]
  have : ∀ L : List Nat, (∀ a ∈ L, a < m) → L.filterMap ((fun i => ((natI ch).map V.int)[i]?) ∘ fun k : Nat => ((r : Int) + (n : Int) * (k : Int)).toNat) = (natI (L.map fun a => ch.getD (a * n + r) 0)).map V.int := fun L hL => by
    induction L with
    | nil => rfl
    | cons a L ih =>
      have ha := hL a (List.mem_cons_self ..)
      have h5 : ((r : Int) + (n : Int) * (a : Int)).toNat = a * n + r := by
        rw [← Int.natCast_mul, Nat.mul_comm n a]; omega
      have h6 : a * n + r < ch.length := by
        have := Nat.mul_le_mul_right n (show a + 1 ≤ m by omega)
        rw [Nat.add_mul] at this; omega
      have h7 : (natI ch)[a * n + r]? = some ((ch.getD (a * n + r) 0 : Nat) : Int) := by
        unfold natI
        rw [List.getElem?_map, List.getElem?_eq_getElem h6, List.getD_eq_getElem?_getD, List.getElem?_eq_getElem h6]; rfl
      rw [List.filterMap_cons, Function.comp_apply, h5, List.getElem?_map, h7, Option.map_some]
      show V.int _ :: List.filterMap _ L = V.int _ :: _
      rw [ih fun b hb => hL b (List.mem_cons_of_mem _ hb)]
      rfl
  exact this _ fun a ha => List.mem_range.mp ha
end My
set_option maxHeartbeats 2000000
/-! several lists that a callee changes; rows of values and of nothing -/
namespace Mm
def rowV (n : Nat) (ps : List Nat) : List L2.V := rowN (fun a => L2.V.int (a : Int)) L2.V.non n ps
def placeOf (n num : Nat) (ch : List Nat) (r : Nat) : Nat := ch.getD (num * n + r) 0
def gend (ch : List Nat) (ev : List Evt) : List Nat := match leaves ev with | [] => ch | l :: _ => l
theorem putsTo_no : ∀ ev : List Evt, leaves ev = [] → putsTo ev = puts ev
  | [], _ => rfl
  | .put :: r, h => congrArg (· + 1) (putsTo_no r h)
  | .leaf _ :: _, h => by cases h
theorem rowV_len (n : Nat) (ps : List Nat) : (rowV n ps).length = n := rowN_len _ _ n ps
theorem rowV_snoc (n : Nat) (ps : List Nat) (p : Nat) : rowV n (ps ++ [p]) = (rowV n ps).set p (.int (ps.length : Int)) := rowN_snoc _ _ n ps p
theorem rowV_kind (n : Nat) (ps : List Nat) {c : Nat} (hc : c < n) : (c ∉ ps ∧ (rowV n ps)[c]? = some .non) ∨ (c ∈ ps ∧ ∃ a, a < ps.length ∧ (rowV n ps)[c]? = some (.int (a : Int))) := by
  by_cases h : c ∈ ps
  · obtain ⟨a, h1, _, h3, _⟩ := rowN_in (fun a => L2.V.int (a : Int)) L2.V.non n ps c hc h
    exact .inr ⟨h, a, h1, h3⟩
  · exact .inl ⟨h, rowN_not _ _ n ps c hc h⟩
theorem rowV_flat (n : Nat) (ps : List Nat) : (rowV n ps).all L2.flatV = true := by
  rw [List.all_eq_true]
  intro x hx
  obtain ⟨c, hc, rfl⟩ := List.mem_iff_getElem.mp hx
  have hl := rowV_len n ps
  rcases rowV_kind n ps (c := c) (by omega) with ⟨_, h⟩ | ⟨_, a, _, h⟩ <;> (rw [List.getElem?_eq_getElem hc] at h; rw [Option.some.inj h]; rfl)
theorem rowV_idx (n : Nat) (ps : List Nat) {p : Nat} (hp : p < n) : (rowV n (ps ++ [p]))[p]? = some (.int (ps.length : Int)) ∧ ∀ (m : Nat) (z : L2.V), m < p → (rowV n (ps ++ [p]))[m]? = some z → L2.eqV z (.int (ps.length : Int)) = false := by
  rw [rowV_snoc]
  refine ⟨List.getElem?_set_self (by rw [rowV_len]; exact hp), fun m z hm hz => ?_⟩
  rw [List.getElem?_set_ne (by omega)] at hz
  rcases rowV_kind n ps (c := m) (by omega) with ⟨_, h⟩ | ⟨_, a, ha, h⟩
  · rw [h] at hz; cases hz; rfl
  · rw [h] at hz; cases hz
    show (((a : Nat) : Int) == ((ps.length : Nat) : Int)) = false
    rw [beq_eq_false_iff_ne]; omega
/-- taken back -/
theorem rowV_back (n : Nat) (ps : List Nat) {p : Nat} (hp : p < n) (h : p ∉ ps) : (rowV n (ps ++ [p])).set p .non = rowV n ps := by
  rw [rowV_snoc, List.set_set]
  apply List.ext_getElem?
  intro c
  by_cases hc : c = p
  · subst hc
    rw [List.getElem?_set_self (by rw [rowV_len]; exact hp)]
    exact (rowN_not _ _ n ps c hp h).symm
  · rw [List.getElem?_set_ne (fun z => hc z.symm)]
section
variable {n num row : Nat} {rows : List (List Int)} {ch : List Nat}
theorem dm_of (hch : ch.length = num * n + row) (hr : row < n) : ch.length % n = row ∧ ch.length / n = num := by
  have h0 : ch.length = row + n * num := by rw [hch, Nat.mul_comm, Nat.add_comm]
  constructor
  · rw [h0, Nat.add_mul_mod_self_left, Nat.mod_eq_of_lt hr]
  · rw [h0, Nat.add_mul_div_left _ _ (by omega), Nat.div_eq_of_lt hr, Nat.zero_add]
theorem ps_below (hch : ch.length = num * n + row) (hr : row < n) {r : Nat} (h : r < row) : ∃ ps, psOf n ch r = ps ++ [placeOf n num ch r] ∧ ps.length = num := by
  obtain ⟨h1, h2⟩ := dm_of hch hr
  unfold psOf
  rw [h1, h2, if_pos h, List.range_succ, List.map_append]
  exact ⟨_, rfl, by rw [List.length_map, List.length_range]⟩
theorem ps_at (hch : ch.length = num * n + row) (hr : row < n) : (psOf n ch row).length = num := by
  obtain ⟨h1, h2⟩ := dm_of hch hr
  rw [psOf_len, h1, h2, if_neg (by omega)]
theorem place_lt (hF : Fit (mft n rows) n ch) (hch : ch.length = num * n + row) {r : Nat} (h : r < row) : placeOf n num ch r < n := (hF _ (by omega)).2
theorem cond_mft (hF : Fit (mft n rows) n ch) (hch : ch.length = num * n + row) (hr : row < n) (k : Nat) :
    ((!(psOf n ch row).contains k && (decide (0 < row) || decide (k = num))) && ((List.range row).map fun r => (!decide (k = placeOf n num ch r) && !decide (cel rows row k = cel rows r (placeOf n num ch r)))).all id) = mft n rows ch k := by
  obtain ⟨h1, h2⟩ := dm_of hch hr
  unfold mft
  rw [h1, h2]
  by_cases hr0 : row = 0
  · subst hr0
    rw [if_pos rfl]
    by_cases hk : k = num
    · subst hk
      have hno : (psOf n ch 0).contains k = false := by
        cases hc : (psOf n ch 0).contains k with
        | false => rfl
        | true =>
          obtain ⟨a, ha, hg⟩ := psOf_mem.mp (List.contains_iff_mem.mp hc)
          rw [ps_at hch hr] at ha
          have hlt : a * n + 0 < ch.length := by
            rw [hch]
            have := Nat.mul_lt_mul_of_pos_right ha (show 0 < n by omega)
            omega
          have hf := (hF (a * n + 0) hlt).1
          rw [hg] at hf
          have hl : (ch.take (a * n + 0)).length = a * n := by rw [List.length_take]; omega
          unfold mft at hf
          rw [hl, Nat.mul_mod_left, if_pos rfl, Nat.mul_div_cancel _ (by omega)] at hf
          have := beq_iff_eq.mp hf
          omega
      rw [hno]
      simp
    · have : (k == num) = false := beq_eq_false_iff_ne.mpr hk
      rw [this, decide_eq_false hk]
      simp
  · rw [if_neg hr0, decide_eq_true (show 0 < row by omega), Bool.true_or, Bool.and_true]
    have hcl : (colsOf n ch).length = row := by unfold colsOf; rw [h2, List.length_drop]; omega
    have hpl : ∀ r, (colsOf n ch).getD r 0 = placeOf n num ch r := fun r => by
      unfold colsOf placeOf
      rw [h2, List.getD_eq_getElem?_getD, List.getElem?_drop, ← List.getD_eq_getElem?_getD]
    have e1 : (colsOf n ch).contains k = (List.range row).any fun r => decide (k = placeOf n num ch r) := by
      rw [Bool.eq_iff_iff, List.contains_iff_mem, List.any_eq_true, List.mem_iff_getElem]
      constructor
      · rintro ⟨r, hr2, hk⟩
        refine ⟨r, List.mem_range.mpr (by omega), decide_eq_true ?_⟩
        rw [← hpl, ← hk, List.getD_eq_getElem?_getD, List.getElem?_eq_getElem hr2]; rfl
      · rintro ⟨r, hr2, hk⟩
        have h3 := List.mem_range.mp hr2
        refine ⟨r, by omega, ?_⟩
        have h4 := of_decide_eq_true hk
        rw [h4, ← hpl, List.getD_eq_getElem?_getD, List.getElem?_eq_getElem (by omega)]; rfl
    have e2 : (signsOf rows (colsOf n ch)).contains (cel rows row k) = (List.range row).any fun r => decide (cel rows row k = cel rows r (placeOf n num ch r)) := by
      unfold signsOf
      rw [hcl, Bool.eq_iff_iff, List.contains_iff_mem, List.mem_map, List.any_eq_true]
      constructor
      · rintro ⟨r, hr2, hk⟩
        exact ⟨r, hr2, decide_eq_true (by rw [← hk, hpl])⟩
      · rintro ⟨r, hr2, hk⟩
        exact ⟨r, hr2, by rw [hpl]; exact (of_decide_eq_true hk).symm⟩
    rw [e1, e2]
    have e3 : ∀ (l : List Nat) (f g : Nat → Bool), (l.map fun r => (!f r && !g r)).all id = (!(l.any f) && !(l.any g)) := fun l f g => by
      induction l with
      | nil => rfl
      | cons x l ih =>
        rw [List.map_cons, List.all_cons, ih, List.any_cons, List.any_cons]
        cases f x <;> cases g x <;> cases l.any f <;> cases l.any g <;> rfl
    rw [e3]
    cases (psOf n ch row).contains k <;> cases (List.range row).any (fun r => decide (k = placeOf n num ch r)) <;> rfl
end
/-- what the first k siblings give -/
def gpre (ft : List Nat → Nat → Bool) (n d : Nat) (ch : List Nat) (k : Nat) : List Evt := (List.range k).flatMap fun c => if ft ch c then .put :: gev ft n d (ch ++ [c]) else []
section
variable {ft : List Nat → Nat → Bool} {n d : Nat} {ch : List Nat}
theorem gpre_s (k : Nat) : gpre ft n d ch (k + 1) = gpre ft n d ch k ++ (if ft ch k then .put :: gev ft n d (ch ++ [k]) else []) := by
  unfold gpre
  rw [List.range_succ, List.flatMap_append, List.flatMap_cons, List.flatMap_nil, List.append_nil]
theorem gpre_n : gpre ft n d ch n = gev ft n (d + 1) ch := rfl
theorem gpre_more (i : Nat) : ∀ k, k ≤ i → ∃ more, gpre ft n d ch i = gpre ft n d ch k ++ more := by
  induction i with
  | zero => intro k hk; exact ⟨[], by rw [show k = 0 by omega, List.append_nil]⟩
  | succ i ih =>
    intro k hk
    rcases Nat.lt_or_ge i k with h | h
    · exact ⟨[], by rw [show k = i + 1 by omega, List.append_nil]⟩
    · obtain ⟨m, hm⟩ := ih k h
      exact ⟨m ++ _, by rw [gpre_s, hm, List.append_assoc]⟩
/-- found behind the k-th: that is what the search finds -/
theorem gpre_hit {k : Nat} {l : List Nat} {more : List (List Nat)} (hk : k < n) (hf : ft ch k = true) (hz : leaves (gpre ft n d ch k) = []) (hl : leaves (gev ft n d (ch ++ [k])) = l :: more) : (∃ m2, leaves (gev ft n (d + 1) ch) = l :: m2) ∧ putsTo (gev ft n (d + 1) ch) = puts (gpre ft n d ch k) + 1 + putsTo (gev ft n d (ch ++ [k])) := by
  obtain ⟨m, hm⟩ := gpre_more (ft := ft) (n := n) (d := d) (ch := ch) n (k + 1) (by omega)
  rw [gpre_n, gpre_s, if_pos hf] at hm
  rw [hm]
  constructor
  · rw [leaves_app, leaves_app, hz]
    show ∃ m2, leaves (gev ft n d (ch ++ [k])) ++ leaves m = _
    rw [hl]
    exact ⟨_, rfl⟩
  · rw [List.append_assoc, putsTo_app, if_pos hz]
    show _ + (putsTo (gev ft n d (ch ++ [k]) ++ m) + 1) = _
    rw [putsTo_app, if_neg (by rw [hl]; exact fun z => by cases z)]
    omega
end
end Mm
namespace My
open PySem PySem.Spec PyProof.Rows L2 Evl Mm
theorem pe_idxLL {X : Cx} {K : PySem.W.Frag} (h : X.K = K) {a b e : Expr} {es : List Expr} {ta tb : TE} {t : TA} {pos apos cpos : Pos} (ha : PE X a ta) (hb : PE X b tb) (hp : PlainIx b) (hg : PA X (e :: es) t)
    (h1 : attributeBase (.Subscript a b pos) "index" X.env (eval (.Subscript a b pos) X.env) = eval (.Subscript a b pos) X.env := by rfl)
    (h2 : ((((backTo cpos (starEach (e :: es) X.env)).all fun x => !x.fst) && (backToKw cpos (keywordEach [] X.env)).all fun x => x.fst.isSome) && decide (((e :: es).length + ([] : List Keyword).length + if ([] : List Keyword).isEmpty = true then 0 else 1) < 30)) = true := by rfl)
    (h3 : (apos.endLine == cpos.line) = true := by rfl) (h4 : starEach (e :: es) X.env = (false, eval e X.env) :: starEach es X.env := by rfl) (h5 : ((backTo cpos (starEach es X.env)).any fun x => x.fst) = false := by rfl) :
    PE X (.Call (.Attribute (.Subscript a b pos) "index" apos) (e :: es) [] cpos) (tBM K "list" (rIndex K) (tOp (rIxL K) ta tb) t) :=
  h ▸ pe_bm PySem.F.plainAttrs_list PySem.F.slot_list_index PySem.F.type_list_index mt_index (pe_ix ix_list ha hb hp) hg h1 h2 h3 h4 h5
/-- the heap without some lists -/
def rmL (H : Hp) (S : List Addr) : Hp := fun c => if c ∈ S then none else H c
theorem rmL_ex (H : Hp) (S : List Addr) : Ex (rmL H S) H := fun b o h => by
  by_cases hb : b ∈ S
  · have : rmL H S b = none := if_pos hb
    rw [this] at h; cases h
  · have : rmL H S b = H b := if_neg hb
    rwa [this] at h
theorem rmL_of {H : Hp} {S : List Addr} {a : Addr} {o : HO} (hn : a ∉ S) (h : H a = some o) : rmL H S a = some o := (if_neg hn : rmL H S a = H a).trans h
theorem rmL_not {H : Hp} {S : List Addr} {a : Addr} {o : HO} (h : rmL H S a = some o) : a ∉ S := fun z => by
  have : rmL H S a = none := if_pos z
  rw [this] at h; cases h
theorem rmL_ups {H H' : Hp} {S : List Addr} (e : Ex H H') : Ex (rmL H S) (rmL H' S) := fun b o h => rmL_of (rmL_not h) (e b o (rmL_ex H S b o h))
theorem rmL_fold {H H' : Hp} {S : List Addr} (e : Ex (rmL H S) H') : Ex (rmL H S) (rmL H' S) := fun b o h => rmL_of (rmL_not h) (e b o h)
theorem rmL_upd {H H' : Hp} {S : List Addr} {b : Addr} {o : HO} (hb : b ∈ S) (e : Ex (rmL H S) H') : Ex (rmL H S) (upd H' b o) := fun c u h => by
  have hc := rmL_not h
  rw [upd_ne (fun z : c = b => hc (z ▸ hb))]
  exact e c u h
structure PS (H : Hp) (tr : Addr) (bs : List Addr) (n : Nat) (ch : List Nat) (t0 : Nat) : Prop where
  ist : H tr = some (.lst [.int (t0 : Int)])
  len : bs.length = n
  row : ∀ (i : Nat) (b : Addr), bs[i]? = some b → H b = some (.lst (rowV n (psOf n ch i)))
  nd : bs.Nodup
  nt : tr ∉ bs
theorem PS.up {H H' : Hp} {tr : Addr} {bs : List Addr} {n t0 : Nat} {ch : List Nat} (A : PS H tr bs n ch t0) (e : Ex H H') : PS H' tr bs n ch t0 := ⟨e _ _ A.ist, A.len, fun i b h => e _ _ (A.row i b h), A.nd, A.nt⟩
theorem PS.setT {H H' : Hp} {tr : Addr} {bs : List Addr} {n t0 : Nat} {ch : List Nat} (A : PS H tr bs n ch t0) (e : Ex H H') (t : Nat) : PS (upd H' tr (.lst [.int (t : Int)])) tr bs n ch t :=
  have B := A.up e
  ⟨upd_same, A.len, fun i b h => by rw [upd_ne (fun z : b = tr => A.nt (z ▸ List.mem_of_getElem? h))]; exact B.row i b h, A.nd, A.nt⟩
theorem PS.setR {H H' : Hp} {tr : Addr} {bs : List Addr} {n t0 r : Nat} {ch ch2 : List Nat} {b : Addr} (A : PS H tr bs n ch t0) (e : Ex H H') (hb : bs[r]? = some b) (hs : ∀ i, i < n → i ≠ r → psOf n ch2 i = psOf n ch i) : PS (upd H' b (.lst (rowV n (psOf n ch2 r)))) tr bs n ch2 t0 := by
  have B := A.up e
  have hbm := List.mem_of_getElem? hb
  refine ⟨by rw [upd_ne (fun z : tr = b => A.nt (z ▸ hbm))]; exact B.ist, A.len, fun i c hc => ?_, A.nd, A.nt⟩
  by_cases hi : i = r
  · subst hi
    rw [hb] at hc; cases hc
    exact upd_same
  · rw [upd_ne (fun z : c = b => hi (nd_inj A.nd hc (z ▸ hb))), hs i (by have := (List.getElem?_eq_some_iff.mp hc).1; have := A.len; omega) hi]
    exact B.row i c hc
theorem PS.at {H : Hp} {tr : Addr} {bs : List Addr} {n t0 r : Nat} {ch : List Nat} (A : PS H tr bs n ch t0) (h : r < n) : ∃ b, bs[r]? = some b ∧ b ∈ bs ∧ H b = some (.lst (rowV n (psOf n ch r))) := by
  have hl := A.len
  exact ⟨bs[r], List.getElem?_eq_getElem (by omega), List.getElem_mem _, A.row r _ (List.getElem?_eq_getElem (by omega))⟩
section
variable {K : PySem.W.Frag} {σ : L2.St} {H : Hp} {ta tb tc te tl : TE} {x y v : V} {D : Ends} {tz : TS}
theorem ret_orC {b : Bool} (h : Ev ta σ H (.bl b)) (h1 : b = true → ∀ H1, Ex H H1 → D.rt (.bl true) H1) (h2 : b = false → ∀ H1, Ex H H1 → te σ H1 D.rt) : tRet (tOrV ta te) D σ H := h H (Ex.refl H) _ fun H1 e => ⟨b, rfl, by
  cases b
  · exact h2 rfl H1 e
  · exact h1 rfl H1 e⟩
theorem call_of {sp : Sp} {E : XK} {t : TA} {vs : List V} {Q : VK} (h : EvA t σ H vs) (k : ∀ H1, Ex H H1 → sp vs H1 Q E) : tCall sp [] E t σ H Q := h H (Ex.refl H) _ fun H1 e => by
  rw [List.append_nil]
  exact k H1 e
theorem q_ifC {sp : Sp} {E : XK} {t : TA} {vs : List V} {tu tw : TS} (h : EvA t σ H vs) (k : ∀ H1, Ex H H1 → sp vs H1 (fun x H2 => ∃ b, x = .bl b ∧ if b = true then tu { nx := tz D, rt := D.rt, bk := D.bk, ct := D.ct } σ H2 else tw { nx := tz D, rt := D.rt, bk := D.bk, ct := D.ct } σ H2) E) : tSeq (tIfS (tTest (tCall sp [] E t)) tu tw) tz D σ H := call_of h k
theorem ev_idxLL {to : TE} {tn : TE} {b : Addr} {xs : List V} {p : Nat} {z y : V} (h : Ev to σ H (.ref b)) (hx : SqL K H b xs) (hy : Ev tn σ H y) (fy : flatV y = true) (fx : xs.all flatV = true) (hz : xs[p]? = some z) (hzy : eqV z y = true) (hno : ∀ (m : Nat) (z' : V), m < p → xs[m]? = some z' → eqV z' y = false) : Ev (tBM K "list" (rIndex K) to (tCons tn tNil)) σ H (.int (p : Int)) := fun H1 e Q q =>
  h H1 e _ fun H2 e2 => ⟨.inl ⟨rfl, xs, ex_l (e.trans e2) hx⟩, hy H2 (e.trans e2) _ fun H3 e3 => ⟨b, xs, y, p, z, rfl, rfl, ex_l ((e.trans e2).trans e3) hx, fy, fx, hz, hzy, hno, q H3 (e2.trans e3)⟩⟩
/-- a list of new tuples -/
theorem q_tups {wi : TI} {J : It} {n i j : Nat} {G : Hp → Prop} {Y : Nat → Hp → V → Hp → Prop} {vs : List Nat} (F : Nat → List V) (h : Gets wi σ H J) (w : Walk J n G Y) (hG : ∀ H', Ex H H' → G H') (hy : ∀ i H1 x H2, Y i H1 x H2 → H2 = H1) (hn : n ≤ 40000) (hw : ∀ x, wipe ((wipe σ vs).set j (some x)) vs = wipe σ vs)
    (he : ∀ (m : Nat) (x : V) (H' : Hp), m < n → Ex H H' → Y m H' x H' → EvU te ((wipe σ vs).set j (some x)) H' (F m)) (k : ∀ (o : Addr) (ts : List Addr) (H1 : Hp), Ex H H1 → H o = none → H1 o = some (.lst (ts.map V.ref)) → ts.length = n → (∀ (i : Nat) (t : Addr), ts[i]? = some t → H1 t = some (.tup (F i))) → tz D (σ.set i (some (.ref o))) H1) : tSeq (tAsg (tLc wi (gName j) tYes te vs) (gName i)) tz D σ H := by
  refine lcW (Q := fun x H1 => tz D (σ.set i (some x)) H1) h w (fun D m H' => ∃ ts : List Addr, Ex H H' ∧ H D = none ∧ H' D = some (.lst (ts.map V.ref)) ∧ ts.length = m ∧ (∀ (j : Nat) (b : Addr), ts[j]? = some b → H' b = some (.tup (F j)))) (fun D H1 e1 hD => ?_) (fun D m H' _ p => ?_) (fun D m x H' H2 hm p yy => ?_) (fun D H' p => ?_)
  · exact ⟨[], e1.mut (fresh_back e1 hD), fresh_back e1 hD, upd_same, rfl, fun j b h => by simp at h⟩
  · obtain ⟨ts, e, _⟩ := p; exact hG _ e
  · obtain ⟨ts, e, hD0, hD, hl, hr⟩ := p
    obtain rfl := hy _ _ _ _ yy
    refine ⟨hw x, et_yes _ (Ex.refl _) _ fun H3 e3 => ?_⟩
    rw [if_pos rfl]
    refine he m x _ hm e yy H3 e3 _ fun p H4 np e4 hp => ?_
    have hD4 := e4 D _ (e3 D _ hD)
    have pD : p ≠ D := fun z => by rw [z, e3 D _ hD] at np; cases np
    refine ⟨_, hD4, sz_lt (by rw [List.length_map]; omega), ts ++ [p], ((e.trans e3).trans e4).mut hD0, hD0, by rw [upd_same, List.map_append]; rfl, by rw [List.length_append, hl]; rfl, fun q c hc => ?_⟩
    by_cases hq : q < ts.length
    · rw [List.getElem?_append_left hq] at hc
      have h5 := e4 _ _ (e3 _ _ (hr q c hc))
      rw [upd_ne (fun z => by rw [z, hD4] at h5; cases h5)]
      exact h5
    · rw [List.getElem?_append_right (by omega)] at hc
      have hq0 : q - ts.length = 0 := by
        have := (List.getElem?_eq_some_iff.mp hc).1
        simp at this; omega
      rw [hq0] at hc
      cases hc
      rw [upd_ne pD]
      have : q = m := by omega
      rw [this]
      exact hp
  · obtain ⟨ts, e, hD0, hD, hl, hr⟩ := p
    exact k D ts H' e hD0 hD hl hr
/-- [e for x, y in xs], a list of pairs -/
theorem el_lcA {i j : Nat} {vs : List Nat} {a : Addr} {ts : List Addr} {f g : Nat → V} (val : Nat → V) (h : Ev tl σ H (.ref a)) (ha : SqL K H a (ts.map V.ref)) (ht : ∀ (i : Nat) (t : Addr), ts[i]? = some t → H t = some (.tup [f i, g i])) (hn : ts.length ≤ 40000) (hw : ∀ x y, wipe (((wipe σ vs).set i (some x)).set j (some y)) vs = wipe σ vs)
    (he : ∀ k H1, k < ts.length → Ex H H1 → Ev te (((wipe σ vs).set i (some (f k))).set j (some (g k))) H1 (val k)) : EvL (tLc (iList K tl) (gTup K 2 (gCons (gName i) (gCons (gName j) gNil))) tYes te vs) σ H ((List.range ts.length).map val) := fun H0 e Q q => by
  have hl : (ts.map V.ref).length = ts.length := List.length_map _
  refine lcW (gets_list (fun H1 e1 => h H1 (e.trans e1)) (ex_l e ha)) (walk_list (xs := ts.map V.ref)) (fun D i H' => Cw H0 (fun _ => true) val D i H') (fun D H1 e1 hD => ⟨fresh_back e1 hD, e1.mut (fresh_back e1 hD), upd_same⟩) (fun D i H' _ p => ex_l (e.trans p.2.1) ha)
    (fun D k x H' H2 hi p yy => ?_) (fun D H' p => q D H' p.1 p.2.1 ?_)
  · obtain ⟨rfl, hx⟩ := yy
    rw [hl] at hi
    rw [List.getElem?_map, List.getElem?_eq_getElem hi] at hx
    cases hx
    have htt := (e.trans p.2.1) _ _ (ht k _ (List.getElem?_eq_getElem hi))
    refine g_pair (st_of htt) ?_
    refine ⟨hw _ _, et_yes _ (Ex.refl _) _ fun H3 e3 => ?_⟩
    show te _ H3 _
    have p3 : H3 D = some (.lst (given k (fun _ => true) val)) := e3 D _ p.2.2
    refine he k _ hi (e.trans p.2.1) H3 e3 _ fun H4 e4 => ⟨_, e4 D _ p3, sz_lt (by have := given_len k (fun _ => true) val; omega), p.1, ((p.2.1.trans e3).trans e4).mut p.1, ?_⟩
    rw [given_yes (rfl : (fun _ => true) k = true)]
    exact upd_same
  · have h3 := p.2.2
    unfold given at h3
    rw [List.filter_eq_self.mpr (fun _ _ => rfl), hl] at h3
    exact h3
end
end My
set_option maxHeartbeats 2000000
/-! a square of all the transversals that were found -/
namespace Mm
def mtR (n : Nat) (ch : List Nat) : List (List Int) := (List.range n).map fun r => rowN (fun a => (a : Int)) 0 n (psOf n ch r)
def tt (n : Nat) (ch : List Nat) (a r : Nat) : Nat := ch.getD (a * n + r) 0
section
variable {n : Nat} {rows : List (List Int)} {ch : List Nat}
theorem at_lt {a r : Nat} (ha : a < n) (hr : r < n) : a * n + r < n * n := by
  have := Nat.mul_le_mul_right n (show a + 1 ≤ n by omega)
  rw [Nat.succ_mul] at this; omega
theorem take_get {m i : Nat} (h : i < m) : (ch.take m).getD i 0 = ch.getD i 0 := by
  rw [List.getD_eq_getElem?_getD, List.getElem?_take, if_pos h, ← List.getD_eq_getElem?_getD]
theorem tk_dm {a r : Nat} (hl : ch.length = n * n) (ha : a < n) (hr : r < n) : (ch.take (a * n + r)).length = a * n + r ∧ (ch.take (a * n + r)).length % n = r ∧ (ch.take (a * n + r)).length / n = a := by
  have h := at_lt ha hr
  have h0 : (ch.take (a * n + r)).length = a * n + r := by rw [List.length_take]; omega
  exact ⟨h0, dm_of h0 hr⟩
theorem t_zero (hF : Fit (mft n rows) n ch) (hl : ch.length = n * n) {a : Nat} (ha : a < n) : tt n ch a 0 = a := by
  have h0 : 0 < n := by omega
  have hf := (hF (a * n + 0) (by rw [hl]; exact at_lt ha h0)).1
  obtain ⟨_, h2, h3⟩ := tk_dm hl ha h0
  unfold mft at hf
  rw [h2, h3, if_pos rfl] at hf
  exact beq_iff_eq.mp hf
theorem t_lt (hF : Fit (mft n rows) n ch) (hl : ch.length = n * n) {a r : Nat} (ha : a < n) (hr : r < n) : tt n ch a r < n := (hF (a * n + r) (by rw [hl]; exact at_lt ha hr)).2
theorem t_mft (hF : Fit (mft n rows) n ch) (hl : ch.length = n * n) {a r : Nat} (ha : a < n) (hr : r < n) (h0 : r ≠ 0) :
    tt n ch a r ∉ colsOf n (ch.take (a * n + r)) ∧ tt n ch a r ∉ psOf n (ch.take (a * n + r)) r ∧ cel rows r (tt n ch a r) ∉ signsOf rows (colsOf n (ch.take (a * n + r))) := by
  have hf : mft n rows (ch.take (a * n + r)) (tt n ch a r) = true := (hF (a * n + r) (by rw [hl]; exact at_lt ha hr)).1
  obtain ⟨_, h2, h3⟩ := tk_dm hl ha hr
  unfold mft at hf
  rw [h2, if_neg h0, Bool.and_eq_true, Bool.and_eq_true, Bool.not_eq_true', Bool.not_eq_true', Bool.not_eq_true'] at hf
  obtain ⟨⟨a1, a2⟩, a3⟩ := hf
  refine ⟨fun z => ?_, fun z => ?_, fun z => ?_⟩
  · rw [List.contains_iff_mem.mpr z] at a1; cases a1
  · rw [List.contains_iff_mem.mpr z] at a2; cases a2
  · rw [List.contains_iff_mem.mpr z] at a3; cases a3
theorem t_row (hF : Fit (mft n rows) n ch) (hl : ch.length = n * n) {a b r : Nat} (hab : a < b) (hb : b < n) (hr : r < n) : tt n ch a r ≠ tt n ch b r := fun z => by
  by_cases h0 : r = 0
  · subst h0
    rw [t_zero hF hl (by omega), t_zero hF hl hb] at z
    omega
  · obtain ⟨h1, h2, h3⟩ := tk_dm hl hb hr
    refine (t_mft hF hl hb hr h0).2.1 (psOf_mem.mpr ⟨a, ?_, ?_⟩)
    · rw [psOf_len, h2, h3, if_neg (by omega)]; exact hab
    · have := Nat.mul_le_mul_right n (show a + 1 ≤ b by omega)
      rw [Nat.succ_mul] at this
      rw [take_get (by omega)]
      exact z
theorem t_cols {a r : Nat} (hl : ch.length = n * n) (ha : a < n) (hr : r < n) : (colsOf n (ch.take (a * n + r))).length = r ∧ ∀ k, k < r → (colsOf n (ch.take (a * n + r))).getD k 0 = tt n ch a k := by
  obtain ⟨h1, h2, h3⟩ := tk_dm hl ha hr
  unfold colsOf
  rw [h3]
  refine ⟨by rw [List.length_drop, h1]; omega, fun k hk => ?_⟩
  rw [List.getD_eq_getElem?_getD, List.getElem?_drop, ← List.getD_eq_getElem?_getD, take_get (by omega)]; rfl
theorem t_tr (hF : Fit (mft n rows) n ch) (hl : ch.length = n * n) {a k r : Nat} (ha : a < n) (hk : k < r) (hr : r < n) : tt n ch a k ≠ tt n ch a r ∧ cel rows k (tt n ch a k) ≠ cel rows r (tt n ch a r) := by
  obtain ⟨c1, c2⟩ := t_cols hl ha hr
  obtain ⟨m1, _, m3⟩ := t_mft hF hl ha hr (by omega)
  constructor
  · intro z
    refine m1 (List.mem_iff_getElem.mpr ⟨k, by omega, ?_⟩)
    have := c2 k hk
    rw [List.getD_eq_getElem?_getD, List.getElem?_eq_getElem (by omega)] at this
    exact this.trans z
  · intro z
    refine m3 ?_
    unfold signsOf
    rw [c1]
    exact List.mem_map.mpr ⟨k, List.mem_range.mpr hk, by rw [c2 k hk]; exact z⟩
theorem ps_full (h1 : 1 ≤ n) (hl : ch.length = n * n) (r : Nat) : psOf n ch r = (List.range n).map fun a => tt n ch a r := by
  unfold psOf
  rw [hl, Nat.mul_mod_right, if_neg (by omega), Nat.mul_div_cancel_left _ (by omega)]
  rfl
theorem ps_all (hF : Fit (mft n rows) n ch) (hl : ch.length = n * n) {r c : Nat} (hr : r < n) (hc : c < n) : c ∈ psOf n ch r := by
  have hp : ((psOf n ch r).map fun x : Nat => (x : Int)).Perm (iota n) := by
    rw [ps_full (by omega) hl, List.map_map]
    refine perm_of (List.pairwise_map.mpr (List.Pairwise.imp_of_mem (fun {a b} _ hb h z => ?_) (List.pairwise_lt_range (n := n)))) (by rw [List.length_map, List.length_range]) fun x hx => ?_
    · exact t_row hF hl h (List.mem_range.mp hb) hr (Int.ofNat.inj z)
    · obtain ⟨a, ha, rfl⟩ := List.mem_map.mp hx
      have := t_lt hF hl (List.mem_range.mp ha) hr
      show (0 : Int) ≤ ((tt n ch a r : Nat) : Int) ∧ ((tt n ch a r : Nat) : Int) < n
      omega
  have hm : (c : Int) ∈ (psOf n ch r).map fun x : Nat => (x : Int) := hp.mem_iff.mpr (iota_mem.mpr (by omega))
  obtain ⟨y, hy, hyc⟩ := List.mem_map.mp hm
  have : y = c := by have h : ((y : Nat) : Int) = (c : Int) := hyc; omega
  rwa [this] at hy
theorem mt_at (hF : Fit (mft n rows) n ch) (hl : ch.length = n * n) {r c : Nat} (hr : r < n) (hc : c < n) : ∃ a, a < n ∧ tt n ch a r = c ∧ cel (mtR n ch) r c = (a : Int) ∧ (rowN (fun a => (a : Int)) 0 n (psOf n ch r))[c]? = some (a : Int) ∧ (rowV n (psOf n ch r))[c]? = some (.int (a : Int)) := by
  obtain ⟨a, ha, hg, h3, h4⟩ := rowN_in (fun a => (a : Int)) (0 : Int) n (psOf n ch r) c hc (ps_all hF hl hr hc)
  have hpl : (psOf n ch r).length = n := by rw [ps_full (by omega) hl, List.length_map, List.length_range]
  refine ⟨a, by omega, ?_, ?_, h3, h4 _ _⟩
  · rw [psOf_get ha] at hg; exact hg
  · unfold cel mtR
    rw [getD_map_range n _ r [] hr, List.getD_eq_getElem?_getD, h3]; rfl
theorem mt_row (hF : Fit (mft n rows) n ch) (hl : ch.length = n * n) {r : Nat} (hr : r < n) : rowV n (psOf n ch r) = (rowN (fun a => (a : Int)) 0 n (psOf n ch r)).map L2.V.int := by
  apply List.ext_getElem?
  intro c
  by_cases hc : c < n
  · obtain ⟨a, _, _, _, h3, h4⟩ := mt_at hF hl hr hc
    rw [List.getElem?_map, h3, h4]; rfl
  · rw [List.getElem?_eq_none (by rw [rowV_len]; omega), List.getElem?_eq_none (by rw [List.length_map, rowN_len]; omega)]
theorem mt_lat (hF : Fit (mft n rows) n ch) (hl : ch.length = n * n) : Lat n (mtR n ch) := by
  refine lat_cols (by unfold mtR; rw [List.length_map, List.length_range]) (fun r hr => ?_) fun c r k hc hr hk z => ?_
  · have hrow : (mtR n ch).getD r [] = rowN (fun a => (a : Int)) 0 n (psOf n ch r) := by unfold mtR; rw [getD_map_range n _ r [] hr]
    rw [hrow]
    have hlen := rowN_len (fun a : Nat => (a : Int)) (0 : Int) n (psOf n ch r)
    refine perm_of (List.pairwise_iff_getElem.mpr fun i j hi hj hij z => ?_) hlen fun x hx => ?_
    · obtain ⟨a, _, h1, _, h3, _⟩ := mt_at hF hl hr (show i < n by omega)
      obtain ⟨b, _, h1', _, h3', _⟩ := mt_at hF hl hr (show j < n by omega)
      rw [List.getElem?_eq_getElem hi] at h3
      rw [List.getElem?_eq_getElem hj] at h3'
      have h4 := Option.some.inj h3
      have h5 := Option.some.inj h3'
      rw [z, h5] at h4
      have : b = a := by omega
      rw [this, h1] at h1'
      omega
    · obtain ⟨i, hi, rfl⟩ := List.mem_iff_getElem.mp hx
      obtain ⟨a, ha, _, _, h3, _⟩ := mt_at hF hl hr (show i < n by omega)
      rw [List.getElem?_eq_getElem hi] at h3
      rw [Option.some.inj h3]; omega
  · obtain ⟨a, ha, h1, h2, _⟩ := mt_at hF hl hr hc
    obtain ⟨b, _, h1', h2', _⟩ := mt_at hF hl (show k < n by omega) hc
    rw [h2, h2'] at z
    have : a = b := by omega
    rw [← this] at h1'
    exact (t_tr hF hl ha hk hr).1 (by rw [h1, h1'])
theorem mt_first (hF : Fit (mft n rows) n ch) (hl : ch.length = n * n) (h1 : 1 ≤ n) : (mtR n ch).getD 0 [] = iota n := by
  unfold mtR
  rw [getD_map_range n _ 0 [] h1]
  apply List.ext_getElem?
  intro c
  by_cases hc : c < n
  · obtain ⟨a, ha, h2, _, h3, _⟩ := mt_at hF hl h1 hc
    rw [t_zero hF hl ha] at h2
    rw [h3, iota_get hc, h2]
  · rw [List.getElem?_eq_none (by rw [rowN_len]; omega), List.getElem?_eq_none (by rw [iota_len]; omega)]
theorem mt_apart (hF : Fit (mft n rows) n ch) (hl : ch.length = n * n) {r c r' c' : Nat} (hr : r < n) (hc : c < n) (hr' : r' < n) (hc' : c' < n) (h1 : cel rows r c = cel rows r' c') (h2 : cel (mtR n ch) r c = cel (mtR n ch) r' c') : r = r' ∧ c = c' := by
  obtain ⟨a, ha, g1, g2, _⟩ := mt_at hF hl hr hc
  obtain ⟨b, hb, k1, k2, _⟩ := mt_at hF hl hr' hc'
  rw [g2, k2] at h2
  have hab : b = a := by omega
  subst hab
  rcases Nat.lt_trichotomy r r' with h | h | h
  · exact absurd (by rw [g1, k1]; exact h1) (t_tr hF hl ha h hr').2
  · subst h; exact ⟨rfl, by rw [← g1, ← k1]⟩
  · exact absurd (by rw [g1, k1]; exact h1.symm) (t_tr hF hl ha h hr).2
theorem mt_rep (hF : Fit (mft n rows) n ch) (hl : ch.length = n * n) : Rep n rows (mtR n ch) none := by
  show NoRep n rows (mtR n ch) (n * n)
  intro s t hst ht z
  have hn : 0 < n := by
    rcases Nat.eq_zero_or_pos n with h | h
    · subst h; omega
    · exact h
  have z1 := congrArg Prod.fst z
  have z2 := congrArg Prod.snd z
  obtain ⟨e1, e2⟩ := mt_apart hF hl ((Nat.div_lt_iff_lt_mul hn).mpr (by omega)) (Nat.mod_lt s hn) ((Nat.div_lt_iff_lt_mul hn).mpr ht) (Nat.mod_lt t hn) z1 z2
  have d1 := Nat.div_add_mod s n
  have d2 := Nat.div_add_mod t n
  rw [e1, e2] at d1
  omega
theorem pwb_lim : pwb 9 81 < 2 ^ 1000 := by decide +kernel
theorem ev_bound (rows : List (List Int)) (h : n ≤ 9) : putsTo (gev (mft n rows) n (n * n) []) < 2 ^ 1000 := by
  refine Nat.lt_of_le_of_lt (Nat.le_trans (Nat.le_trans (puts_le _) (gputs_le _ _)) ?_) pwb_lim
  exact pwb_mono h _ _ (Nat.mul_le_mul h h)
theorem leaf_fit {l : List Nat} (h : l ∈ leaves (gev (mft n rows) n (n * n) [])) : Fit (mft n rows) n l ∧ l.length = n * n := by
  obtain ⟨a, b⟩ := gleaf_fit (n * n) [] (fun m hm => by cases hm) l h
  exact ⟨a, by rw [b]; show 0 + n * n = n * n; omega⟩
theorem ev_pos (rows : List (List Int)) (h : 1 ≤ n) : 1 ≤ putsTo (gev (mft n rows) n (n * n) []) := by
  obtain ⟨d, hd⟩ : ∃ d, n * n = d + 1 := ⟨n * n - 1, by have := Nat.mul_pos (show 0 < n by omega) (show 0 < n by omega); omega⟩
  have hf : mft n rows [] 0 = true := by
    unfold mft
    rw [List.length_nil, Nat.zero_mod, if_pos rfl, Nat.zero_div]; rfl
  rw [hd, gev_sib, gsib_fit (k := 0) (Nat.le_refl _) (by omega) hf (fun j _ h => by omega)]
  exact Nat.succ_le_succ (Nat.zero_le _)
end
end Mm
set_option maxHeartbeats 2000000
namespace My
open PySem PySem.Spec PyProof.Rows L2 Evl Mm
theorem pe_idxL {X : Cx} {K : PySem.W.Frag} (h : X.K = K) {o e : Expr} {es : List Expr} {to : TE} {t : TA} {apos cpos : Pos} (ho : PE X o to) (hg : PA X (e :: es) t)
    (h1 : attributeBase o "index" X.env (eval o X.env) = eval o X.env := by rfl)
    (h2 : ((((backTo cpos (starEach (e :: es) X.env)).all fun x => !x.fst) && (backToKw cpos (keywordEach [] X.env)).all fun x => x.fst.isSome) && decide (((e :: es).length + ([] : List Keyword).length + if ([] : List Keyword).isEmpty = true then 0 else 1) < 30)) = true := by rfl)
    (h3 : (apos.endLine == cpos.line) = true := by rfl) (h4 : starEach (e :: es) X.env = (false, eval e X.env) :: starEach es X.env := by rfl) (h5 : ((backTo cpos (starEach es X.env)).any fun x => x.fst) = false := by rfl) :
    PE X (.Call (.Attribute o "index" apos) (e :: es) [] cpos) (tBM K "list" (rIndex K) to t) :=
  h ▸ pe_bm PySem.F.plainAttrs_list PySem.F.slot_list_index PySem.F.type_list_index mt_index ho hg h1 h2 h3 h4 h5
end My
set_option maxHeartbeats 2000000
/-! how many a set of ints has -/
namespace My
open PySem PySem.Spec PyProof.Rows L2 Evl Mm
def rLenSt (w : World) : List V → Hp → VK → Prop := fun xs H Q => ∃ (a : Addr) (S : Int → Bool) (n : Nat), xs = [V.ref a] ∧ H a = some (SetO w a S n) ∧ Q (.int (n : Int)) H
theorem call_lenSt {X : Cx} : CallR X (.builtin "len") (rLenSt X.w) := by
  intro pins s σ H xs us Q I r h
  obtain ⟨a, S, n, rfl, ha, q⟩ := h
  obtain ⟨o, es, ep, t, ho, hex, hd, _, _, _, hb, hf, hn, _⟩ := setO_get I ha
  cases r with
  | cons ra rt =>
    cases rt
    cases ra
    refine call_len_set ho hex hd hf ?_ ?_
    · have : (scanBound : Nat) < 2 ^ 63 := by decide
      omega
    · exact ⟨.int (n : Int), H, I.tok _, ⟨_, by rw [hn]⟩, q⟩
end My
/-! families of squares: the first pair of squares with a pair of signs that stands twice -/
namespace Mm
def famOf (n : Nat) (t : Int) : List (List Int) := if n = 4 then mkRows 4 fun r c => fs2 r (fp4 t c) else mkRows n fun r c => ((r : Int) + t * c) % (n : Int)
theorem fam_all : ([3, 4, 5, 7].all fun n => (List.range' 1 4).all fun t => decide (n ≤ t) || latB n (famOf n (t : Nat))) = true := by decide +kernel
theorem fam_lat {n t : Nat} (hn : n = 3 ∨ n = 4 ∨ n = 5 ∨ n = 7) (h1 : 1 ≤ t) (h4 : t ≤ 4) (ht : t < n) : Lat n (famOf n (t : Nat)) := by
  have h := List.all_eq_true.mp fam_all n (by simp; omega)
  have h2 := List.all_eq_true.mp h t (List.mem_range'_1.mpr ⟨h1, by omega⟩)
  rw [decide_eq_false (by omega), Bool.false_or] at h2
  exact lat_of h2
/-- rows in another order -/
theorem lat_shift {n s : Nat} {P : List (List Int)} (L : Lat n P) (hs : s ≤ n) : Lat n (P.drop s ++ P.take s) := by
  have hl := L.len
  have hp : (P.drop s ++ P.take s).Perm P := by
    have := List.perm_append_comm (l₁ := P.drop s) (l₂ := P.take s)
    rwa [List.take_append_drop] at this
  have hlen : (P.drop s ++ P.take s).length = n := hp.length_eq.trans hl
  refine ⟨hlen, fun r hr => ?_, fun c hc => ?_⟩
  · have hm : (P.drop s ++ P.take s).getD r [] ∈ P := by
      refine hp.mem_iff.mp ?_
      rw [List.getD_eq_getElem?_getD, List.getElem?_eq_getElem (by omega)]
      exact List.getElem_mem _
    obtain ⟨i, hi, he⟩ := List.mem_iff_getElem.mp hm
    have := L.row i (by omega)
    rw [List.getD_eq_getElem?_getD, List.getElem?_eq_getElem hi] at this
    rw [← he]; exact this
  · have e : ∀ Q : List (List Int), col Q c = Q.map fun r => r.getD c 0 := fun Q => by
      unfold col
      apply List.ext_getElem?
      intro i
      rw [List.getElem?_map, List.getElem?_map]
      by_cases hi : i < Q.length
      · rw [List.getElem?_range hi, List.getElem?_eq_getElem hi]
        show some (cel Q i c) = some (Q[i].getD c 0)
        unfold cel
        rw [List.getD_eq_getElem?_getD (l := Q), List.getElem?_eq_getElem hi]; rfl
      · rw [List.getElem?_eq_none (by simpa using hi), List.getElem?_eq_none (by simpa using hi)]; rfl
    rw [e]
    refine (hp.map _).trans ?_
    rw [← e]
    exact L.col c hc
/-- d: what is found among the pairs of squares ahead of (i, j) -/
def Fst (f : Nat → Nat → Option (Nat × Nat)) (m i j : Nat) : Option (Nat × Nat × Nat × Nat) → Prop
  | none => ∀ a b, a < b → b < m → (a < i ∨ (a = i ∧ b < j)) → f a b = none
  | some (x, y, s, t) => x < y ∧ y < m ∧ (x < i ∨ (x = i ∧ y < j)) ∧ f x y = some (s, t) ∧ ∀ a b, a < b → b < m → (a < x ∨ (a = x ∧ b < y)) → f a b = none
theorem fst_zero (f : Nat → Nat → Option (Nat × Nat)) (m : Nat) : Fst f m 0 0 none := fun a b _ _ h => by omega
theorem fst_row {f : Nat → Nat → Option (Nat × Nat)} {m i : Nat} {d : Option (Nat × Nat × Nat × Nat)} (h : Fst f m i 0 d) : Fst f m i (i + 1) d := by
  cases d with
  | none => exact fun a b h1 h2 h3 => h a b h1 h2 (by omega)
  | some p => obtain ⟨x, y, s, t⟩ := p; obtain ⟨h1, h2, h3, h4⟩ := h; exact ⟨h1, h2, by omega, h4⟩
theorem fst_next {f : Nat → Nat → Option (Nat × Nat)} {m i : Nat} {d : Option (Nat × Nat × Nat × Nat)} (h : Fst f m i m d) : Fst f m (i + 1) 0 d := by
  cases d with
  | none => exact fun a b h1 h2 h3 => h a b h1 h2 (by omega)
  | some p => obtain ⟨x, y, s, t⟩ := p; obtain ⟨h1, h2, h3, h4⟩ := h; exact ⟨h1, h2, by omega, h4⟩
theorem fst_skip {f : Nat → Nat → Option (Nat × Nat)} {m i j : Nat} {d : Option (Nat × Nat × Nat × Nat)} (h : Fst f m i j d) (hn : d = none → f i j = none) : Fst f m i (j + 1) d := by
  cases d with
  | none =>
    refine fun a b h1 h2 h3 => ?_
    by_cases he : a = i ∧ b = j
    · rw [he.1, he.2]; exact hn rfl
    · exact h a b h1 h2 (by omega)
  | some p => obtain ⟨x, y, s, t⟩ := p; obtain ⟨h1, h2, h3, h4⟩ := h; exact ⟨h1, h2, by omega, h4⟩
theorem fst_hit {f : Nat → Nat → Option (Nat × Nat)} {m i j s t : Nat} (h : Fst f m i j none) (hij : i < j) (hj : j < m) (hf : f i j = some (s, t)) : Fst f m i (j + 1) (some (i, j, s, t)) :=
  ⟨hij, hj, by omega, hf, h⟩
theorem fst_uniq {f : Nat → Nat → Option (Nat × Nat)} {m i j i' j' : Nat} {d e : Option (Nat × Nat × Nat × Nat)} (h : Fst f m i j d) (h' : Fst f m i' j' e) (hd : d = none → m ≤ i) (he : e = none → m ≤ i') : d = e := by
  cases d with
  | none =>
    cases e with
    | none => rfl
    | some p =>
      obtain ⟨x, y, s, t⟩ := p
      obtain ⟨h1, h2, h3, h4, h5⟩ := h'
      have := h x y h1 h2 (by have := hd rfl; omega)
      rw [this] at h4; cases h4
  | some p =>
    obtain ⟨x, y, s, t⟩ := p
    obtain ⟨h1, h2, h3, h4, h5⟩ := h
    cases e with
    | none =>
      have := h' x y h1 h2 (by have := he rfl; omega)
      rw [this] at h4; cases h4
    | some p =>
      obtain ⟨x', y', s', t'⟩ := p
      obtain ⟨g1, g2, g3, g4, g5⟩ := h'
      have hxy : x = x' ∧ y = y' := by
        by_cases hz : x = x' ∧ y = y'
        · exact hz
        · exfalso
          by_cases hlt : x < x' ∨ (x = x' ∧ y < y')
          · have := g5 x y h1 h2 hlt; rw [this] at h4; cases h4
          · have := h5 x' y' g1 g2 (by omega); rw [this] at g4; cases g4
      obtain ⟨rfl, rfl⟩ := hxy
      rw [h4] at g4
      cases g4; rfl
end Mm
/-! two squares of a family, renamed alike: mates -/
namespace Mm
def apB (n j k : Nat) : Bool := decide (((List.range (n * n)).map (prAt n (famOf n (j : Nat)) (famOf n (k : Nat)))).Nodup)
theorem ap_all : ([3, 4, 5, 7].all fun n => (List.range n).all fun j => (List.range n).all fun k => j == 0 || k == 0 || j == k || apB n j k) = true := by decide +kernel
theorem fam_lat7 : ([3, 4, 5, 7].all fun n => (List.range n).all fun t => t == 0 || latB n (famOf n (t : Nat))) = true := by decide +kernel
theorem fam_latn {n t : Nat} (hn : n = 3 ∨ n = 4 ∨ n = 5 ∨ n = 7) (h1 : 1 ≤ t) (ht : t < n) : Lat n (famOf n (t : Nat)) := by
  have h := List.all_eq_true.mp fam_lat7 n (by simp; omega)
  have h2 := List.all_eq_true.mp h t (List.mem_range.mpr ht)
  have h3 : (t == 0) = false := beq_eq_false_iff_ne.mpr (by omega)
  rw [h3, Bool.false_or] at h2
  exact lat_of h2
theorem fam_norep {n j k : Nat} (hn : n = 3 ∨ n = 4 ∨ n = 5 ∨ n = 7) (hj : 1 ≤ j ∧ j < n) (hk : 1 ≤ k ∧ k < n) (hjk : j ≠ k) : NoRep n (famOf n (j : Nat)) (famOf n (k : Nat)) (n * n) := by
  have h := List.all_eq_true.mp ap_all n (by simp; omega)
  have h2 := List.all_eq_true.mp (List.all_eq_true.mp h j (List.mem_range.mpr hj.2)) k (List.mem_range.mpr hk.2)
  have h3 : (j == 0) = false := beq_eq_false_iff_ne.mpr (by omega)
  have h4 : (k == 0) = false := beq_eq_false_iff_ne.mpr (by omega)
  have h5 : (j == k) = false := beq_eq_false_iff_ne.mpr hjk
  rw [h3, h4, h5, Bool.false_or, Bool.false_or, Bool.false_or] at h2
  have hd := of_decide_eq_true h2
  intro s u hsu hu
  have hp := List.pairwise_iff_getElem.mp hd s u (by rw [List.length_map, List.length_range]; omega) (by rw [List.length_map, List.length_range]; omega) hsu
  rw [List.getElem_map, List.getElem_map, List.getElem_range, List.getElem_range] at hp
  exact hp
theorem perm_one {n : Nat} {s : List Int} (h : s.Perm (iota n)) {a b : Nat} (ha : a < n) (hb : b < n) (e : s.getD a 0 = s.getD b 0) : a = b := by
  have hl := h.length_eq.trans (iota_len n)
  have hd : s.Nodup := h.nodup_iff.mpr (iota_nodup n)
  rw [List.getD_eq_getElem?_getD, List.getD_eq_getElem?_getD, List.getElem?_eq_getElem (by omega), List.getElem?_eq_getElem (by omega)] at e
  rcases Nat.lt_trichotomy a b with h1 | h1 | h1
  · exact absurd e (List.pairwise_iff_getElem.mp hd a b (by omega) (by omega) h1)
  · exact h1
  · exact absurd e.symm (List.pairwise_iff_getElem.mp hd b a (by omega) (by omega) h1)
theorem norep_at {n : Nat} {P R : List (List Int)} (h : NoRep n P R (n * n)) {r c r' c' : Nat} (hr : r < n) (hc : c < n) (hr' : r' < n) (hc' : c' < n) (h1 : cel P r c = cel P r' c') (h2 : cel R r c = cel R r' c') : r = r' ∧ c = c' := by
  have at1 : ∀ {r c : Nat}, r < n → c < n → prAt n P R (c + n * r) = (cel P r c, cel R r c) ∧ c + n * r < n * n := fun {r c} hr hc => by
    have hm := Nat.mul_le_mul_left n (show r + 1 ≤ n by omega)
    rw [Nat.mul_succ] at hm
    unfold prAt
    rw [Nat.add_mul_div_left _ _ (by omega), Nat.div_eq_of_lt hc, Nat.zero_add, Nat.add_mul_mod_self_left, Nat.mod_eq_of_lt hc]
    exact ⟨rfl, by omega⟩
  obtain ⟨a1, a2⟩ := at1 hr hc
  obtain ⟨b1, b2⟩ := at1 hr' hc'
  have e : prAt n P R (c + n * r) = prAt n P R (c' + n * r') := by rw [a1, b1, h1, h2]
  have ht : c + n * r = c' + n * r' := by
    rcases Nat.lt_trichotomy (c + n * r) (c' + n * r') with z | z | z
    · exact absurd e (h _ _ z b2)
    · exact z
    · exact absurd e.symm (h _ _ z a2)
  have m1 := congrArg (· % n) ht
  have d1 := congrArg (· / n) ht
  simp only [Nat.add_mul_mod_self_left, Nat.mod_eq_of_lt hc, Nat.mod_eq_of_lt hc'] at m1
  rw [Nat.add_mul_div_left _ _ (by omega), Nat.add_mul_div_left _ _ (by omega), Nat.div_eq_of_lt hc, Nat.div_eq_of_lt hc'] at d1
  exact ⟨by omega, m1⟩
theorem ren_norep {n : Nat} {P R : List (List Int)} {s1 s2 g g' : List Int} (LP : Lat n P) (LR : Lat n R) (h : NoRep n P R (n * n)) (h1 : s1.Perm (iota n)) (h2 : s2.Perm (iota n)) (hg : g.Perm (iota n)) (hg' : g'.Perm (iota n)) : NoRep n (ren n P s1 s2 g) (ren n R s1 s2 g') (n * n) := by
  intro s u hsu hu e
  have hn : 0 < n := by
    rcases Nat.eq_zero_or_pos n with z | z
    · subst z; omega
    · exact z
  have rs : s / n < n := (Nat.div_lt_iff_lt_mul hn).mpr (by omega)
  have ru : u / n < n := (Nat.div_lt_iff_lt_mul hn).mpr hu
  have cs := Nat.mod_lt s hn
  have cu := Nat.mod_lt u hn
  have nat : ∀ {l : List Int}, l.Perm (iota n) → ∀ {i : Nat}, i < n → (l.getD i 0).toNat < n ∧ (((l.getD i 0).toNat : Nat) : Int) = l.getD i 0 := fun {l} hp {i} hi => by
    have := perm_in hp hi
    omega
  have e1 : cel (ren n P s1 s2 g) (s / n) (s % n) = cel (ren n P s1 s2 g) (u / n) (u % n) := congrArg Prod.fst e
  have e2 : cel (ren n R s1 s2 g') (s / n) (s % n) = cel (ren n R s1 s2 g') (u / n) (u % n) := congrArg Prod.snd e
  unfold ren at e1 e2
  rw [mk_cel rs cs, mk_cel ru cu] at e1 e2
  have q1 := nat h1 rs
  have q2 := nat h2 cs
  have q3 := nat h1 ru
  have q4 := nat h2 cu
  have key : ∀ {M : List (List Int)} {gg : List Int}, Lat n M → gg.Perm (iota n) → gg.getD (cel M (s1.getD (s / n) 0).toNat (s2.getD (s % n) 0).toNat).toNat 0 = gg.getD (cel M (s1.getD (u / n) 0).toNat (s2.getD (u % n) 0).toNat).toNat 0 → cel M (s1.getD (s / n) 0).toNat (s2.getD (s % n) 0).toNat = cel M (s1.getD (u / n) 0).toNat (s2.getD (u % n) 0).toNat := fun {M gg} LM hgg ee => by
    have c1 := LM.cin q1.1 q2.1
    have c2 := LM.cin q3.1 q4.1
    have := perm_one hgg (by omega) (by omega) ee
    omega
  obtain ⟨f1, f2⟩ := norep_at h q1.1 q2.1 q3.1 q4.1 (key LP hg e1) (key LR hg' e2)
  have k1 := perm_one h1 rs ru (by rw [← q1.2, ← q3.2, f1])
  have k2 := perm_one h2 cs cu (by rw [← q2.2, ← q4.2, f2])
  have d1 := Nat.div_add_mod s n
  have d2 := Nat.div_add_mod u n
  rw [k1, k2] at d1
  omega
end Mm
set_option maxHeartbeats 2000000
/-! how many a set of tuples of ints has -/
namespace My
open PySem PySem.Spec PyProof.Rows L2 Evl Mm
def rLenST (K : PySem.W.Frag) (P : Program) (w : World) : List V → Hp → VK → Prop := fun xs H Q => ∃ (a : Addr) (L : List (Addr × List Int)), xs = [V.ref a] ∧ H a = some (SetTO P w a L) ∧ (∀ p ∈ L, SqT K H p.1 (p.2.map V.int)) ∧ ((L.map (·.2)).Nodup → Q (.int (L.length : Int)) H)
theorem call_lenST {X : Cx} : CallR X (.builtin "len") (rLenST X.K X.prog X.w) := by
  intro pins s σ H xs us Q I r h
  obtain ⟨a, L, rfl, ha, ht, q⟩ := h
  have R0 : SetT0 X.prog X.w s.heap a L := (I.hok a _ ha).1
  obtain ⟨es, ep, t, R⟩ := R0.full fun p hp => I.isT (ht p hp)
  obtain ⟨o, ho, hex, hd⟩ := R.ob
  have hsz : es.size = L.length := by
    have h1 : es.toList.length = (rowsOf X.prog X.w L).length := congrArg List.length R.rows
    unfold rowsOf at h1
    rw [List.length_map] at h1
    simpa using h1
  cases r with
  | cons ra rt =>
    cases rt
    cases ra
    refine call_len_set ho hex hd R.fits ?_ ?_
    · have := R.few
      omega
    · exact ⟨.int (L.length : Int), H, I.tok _, ⟨_, by rw [hsz]⟩, q R.nd⟩
end My
set_option maxHeartbeats 2000000
/-! a set of ints by a comprehension without tests -/
namespace My
open PySem PySem.Spec PyProof.Rows L2 Evl Mm
/-- a set of ints at an address, one int more -/
def incl (S : Int → Bool) (c : Int) : Int → Bool := fun j => S j || decide (j = c)
def incn (S : Int → Bool) (c : Int) (n : Nat) : Nat := if S c = true then n else n + 1
def tScI (w : World) (wi : TI) (g : TG) (te : TE) (vs : List Nat) : TE := fun σ H Q => wi σ H fun J H1 => ∀ Z, H1 Z = none → ∃ W : Nat → Nat → Hp → Prop, (∃ m, W 0 m (upd H1 Z (SetO w Z (fun _ => false) 0))) ∧ ∀ i m H2, W i m H2 →
  (J.stop i H2 ∧ Q (.ref Z) H2) ∨ (J.go i H2 ∧ ∃ Nx : Hp → Prop, (∀ H3, Nx H3 → ∃ m2, m2 < m ∧ W (i + 1) m2 H3) ∧ ∀ x H3, J.yld i H2 x H3 → g x (wipe σ vs) H3 fun σ4 H4 => wipe σ4 vs = wipe σ vs ∧
    te σ4 H4 fun y H5 => ∃ (c : Int) (S : Int → Bool) (n : Nat), y = .int c ∧ H5 Z = some (SetO w Z S n) ∧ n + 1 < scanBound ∧ Nx (upd H5 Z (SetO w Z (incl S c) (incn S c n))))
section
variable {X : Cx}
theorem put_int {pins : List (Addr × Obj)} {σ : L2.St} {H : Hp} {s : Shared} {E : Value → Shared → Prop} {Z : Addr} {S : Int → Bool} {n : Nat} {c : Int} {u : Value} {Q : Value → Shared → Prop} (I : Inv X pins σ H s) (hu : RelV (.int c) u) (hZ : H Z = some (SetO X.w Z S n)) (hn : n + 1 < scanBound)
    (k : ∀ t, Inv X pins σ (upd H Z (SetO X.w Z (incl S c) (incn S c n))) t → Q .none t) : wpAny (model X.prog X.w) X.A (call (.builtin "set.add") [.ref Z, u]) Q E s := by
  obtain ⟨tk, rfl⟩ := hu
  refine setR_add (setO_get I hZ) hn fun h2 sb nw => ?_
  have hex : ∃ o, h2.get? Z = some o := by
    obtain ⟨o, _, _, _, ho, _⟩ := nw
    exact ⟨o, ho⟩
  exact k _ (I.write (e := Z) (t' := s.toks + 1) (by rw [hZ]; trivial) (.inl rfl) (fun b v hb hv => (sb.2 b hb).trans hv) hex (setO_new nw))
end
end My
set_option maxHeartbeats 2000000
/-! {e for x in xs}, e an int, without tests -/
namespace My
open PySem PySem.Spec PyProof.Rows L2 Evl Mm
section
variable {X : Cx}
/-- what the loop keeps: the place among the values, the heap, the iterator's objects apart -/
def ScL (X : Cx) (s3 : Shared) (H3 : Hp) (sc : Scope) (ce : Env) (fr : List Addr) (tn : Nat → Heap → Prop) (σw : L2.St) (W : Nat → Nat → Hp → Prop) (n : Nat) (s' : Shared) : Prop :=
  ∃ (i : Nat) (Hi : Hp), Inv (X.blk s3 H3 sc ce fr) [] σw Hi s' ∧ tn i s'.heap ∧ (∀ b ∈ fr, Hi b = none) ∧ W i n Hi
theorem pe_scI {el tg it : Expr} {sc : Scope} {own : List (PySem.Str × Nat)} {p0 : Pos} {wi : TI} {g : TG} {te : TE} (calm : X.calm = true) (nd : X.N.Nodup) (hit : PI X tg it wi) (bo : BlkOk X.N X.env.scope sc own)
    (htg : ∀ (s : Shared) (H : Hp) (C : Addr) (cl : List (PySem.Str × Addr)) (fr : List Addr), PG (X.blk s H sc (compEnvC sc cl C X.env) fr) tg g)
    (hel : ∀ (s : Shared) (H : Hp) (C : Addr) (cl : List (PySem.Str × Addr)) (fr : List Addr), PE (X.blk s H sc (compEnvC sc cl C X.env) fr) el te) (hfo : ∀ x, foldedSetIterable it X.env x = pure x := by intro _; rfl) :
    PE X (.SetComp el [⟨tg, it, [], 0⟩] sc p0) (tScI X.w wi g te (own.map (·.2))) := ⟨fun pins s σ H Q I hw => by
  rw [PpSet.eval_SetComp]
  have frees : ∀ y ∈ sc.names, y.2 = .free → ∃ c, X.env.cells.lookup y.1 = some c := fun y hy e => (bo.free y hy e).elim (fun k => I.ok.has _ (.inl k)) fun k => I.ok.has _ (.inr k)
  refine wpAny_comprehension_free (use := none) rfl hfo (closure_ok frees) bo.kind (fun y hy e => by rw [bo.uniq y hy, e]) (thn (hit.run pins s σ H _ I hw) fun xv s1 hx => thn hx fun iv s2 hi2 => ?_)
  obtain ⟨ia, fr, tn, J, H2, rfl, I2, T, at2, fp2, rest⟩ := hi2
  refine PpSet.newSet_ok (newEnv_comp ?_)
  obtain ⟨Z, hZ⟩ : ∃ Z, s2.heap.objs.size = Z := ⟨_, rfl⟩
  rw [hZ]
  have freshZ : H2 Z = none := I2.hok.fresh (Nat.le_of_eq hZ)
  obtain ⟨W, ⟨m0, w0⟩, goesOn⟩ := rest Z freshZ
  obtain ⟨s3, hs3⟩ : ∃ s3 : Shared, ({ s2 with heap := s2.heap.push { cls := .type "set", dict := none, data := .set #[] 0 (.fresh 0 0 (!X.w.params.followText "set-order")) } } : Shared) = s3 := ⟨_, rfl⟩
  have hp3 : s3.heap = s2.heap.push { cls := .type "set", dict := none, data := .set #[] 0 (.fresh 0 0 (!X.w.params.followText "set-order")) } := by rw [← hs3]
  rw [hs3]
  obtain ⟨H3, hH3⟩ : ∃ H3, upd H2 Z (SetO X.w Z (fun _ => false) 0) = H3 := ⟨_, rfl⟩
  rw [hH3] at w0
  have I3 : Inv X pins σ H3 s3 := by
    rw [← hs3, ← hH3]
    refine I2.laid (t' := s2.toks) (fun b o e => Heap.get?_push_of_some _ e) (Nat.le_of_eq hZ) ?_
    rw [← hZ]; exact setO_new (setR_fresh X.w)
  have small : ∀ b ∈ fr, b < Z := fun b hb => by obtain ⟨o, e, _⟩ := T.obj _ _ at2 b hb; rw [← hZ]; exact Heap.lt_size e
  have fp3 : ∀ b ∈ fr, FpOk X pins H3 b ∧ b < s3.heap.objs.size := fun b hb =>
    ⟨⟨by rw [← hH3, upd_ne (Nat.ne_of_lt (small b hb))]; exact (fp2 b hb).1, (fp2 b hb).2⟩, by rw [hp3, Heap.size_push, hZ]; exact Nat.lt_succ_of_lt (small b hb)⟩
  have at3 : tn 0 s3.heap := T.keep _ _ _ at2 fun b _ o e => by rw [hp3]; exact Heap.get?_push_of_some _ e
  have B := block_start I3 bo nd fp3
  obtain ⟨cc, hcc⟩ : ∃ cc, cellsFrom (s3.heap.objs.size + 1) sc.names (cloFrom X.env.cells sc.names []) = cc := ⟨_, rfl⟩
  have pg := htg s3 H3 s3.heap.objs.size cc fr
  have pe := hel s3 H3 s3.heap.objs.size cc fr
  rw [hcc] at B ⊢
  show codeAny _ _ (.compStart (.SetComp el [⟨tg, it, [], 0⟩] sc p0) 0 (.ref ia) (.ref Z) (compEnvC sc cc s3.heap.objs.size X.env)) (compPost (model X.prog X.w) X.A X.xe none _ (.ref Z) s3.heap.objs.size) { s3 with heap := pushCells (s3.heap.push { cls := .type "dict", data := .dict #[] }) sc.names }
  have no3 : ∀ b ∈ fr, H3 b = none := fun b hb => (fp3 b hb).1.1
  obtain ⟨ce, hce, hcl⟩ : ∃ ce, compEnvC sc cc s3.heap.objs.size X.env = ce ∧ ce.locals = s3.heap.objs.size := ⟨_, rfl, rfl⟩
  rw [hce] at B pg pe ⊢
  obtain ⟨s4, hs4⟩ : ∃ s4 : Shared, ({ s3 with heap := pushCells (s3.heap.push { cls := .type "dict", data := .dict #[] }) sc.names } : Shared) = s4 := ⟨_, rfl⟩
  rw [hs4] at B ⊢
  have at4 : tn 0 s4.heap := T.keep _ _ _ at3 fun b _ o e => by rw [← hs4]; exact pushCells_keeps _ _ _ _ (Heap.get?_push_of_some _ e)
  have still : ∀ {σ' : L2.St} {H' : Hp} {s' : Shared}, Inv (X.blk s3 H3 sc ce fr) [] σ' H' s' → (∀ b ∈ fr, H' b = none) → ∀ b ∈ fr, FpOk (X.blk s3 H3 sc ce fr) [] H' b := fun J0 hn b hb =>
    ⟨hn b hb, (J0.ok.exf b hb).1, J0.ok.exfs b hb, .inl hb, fun x c e => (J0.ok.exf b hb).2 x c e, fun p hp => nomatch (show p ∈ ([] : List (Addr × Obj)) from hp)⟩
  refine PpSet.codeAny_compStart_set (rest := []) ?loop (T.self X.A 0 _ _ _ at4 ?loop)
  case loop =>
  refine PpSet.compLoopS_any (ScL X s3 H3 sc ce fr tn (wipe σ (own.map (·.2))) W) ?_ m0 ⟨0, H3, B, at4, no3, w0⟩
  rintro n s5 ⟨i, H5, I5, at5, no5, w5⟩
  rcases goesOn i n H5 w5 with ⟨stop, qq⟩ | ⟨go, Nx, hNx, step⟩
  · refine thnF (T.done (X.blk s3 H3 sc ce fr) rfl rfl rfl calm i [] s5 _ H5 (fun _ _ => False) I5 (still I5 no5) at5 stop) fun r s6 ⟨hr, I6⟩ => ?_
    subst hr
    have I7 : Inv X pins σ H5 s6 := I3.call' (ch := fr) I6.os I6.base I6.hok I6.bare fun b hb => let q := (fp3 b hb).1.2; ⟨q.2.2.1, q.1, q.2.2.2.1, q.2.2.2.2⟩
    have nC : H5 s3.heap.objs.size = none := by rw [← hcl]; exact I6.free
    obtain ⟨m, hn, _⟩ := I6.loc
    have hn' : s6.heap.Ns s3.heap.objs.size m := by rw [← hcl]; exact hn
    obtain ⟨f0, f1, f2, f3, f4, f5⟩ := I3.fpOk (Nat.le_refl _) nC
    exact ⟨m, hn', fun h2 sb => ⟨.ref Z, H5, I7.turned (t' := s6.toks) (fun b o hb e => (sb.2 b hb).trans e) f0 f1 f3 f4 f5, rfl, qq⟩⟩
  · refine thnF (T.item (X.blk s3 H3 sc ce fr) rfl rfl rfl calm i [] s5 _ H5 (fun _ _ => False) I5 (still I5 no5) at5 go) fun r s6 ⟨u, hr, h6⟩ => ?_
    subst hr
    refine thnF h6 fun _ s7 ⟨x, H7, I7, r7, y7, at7, no7⟩ => ?_
    refine thnF (pg.run _ s7 _ H7 x u _ (I7.pinned (still I7 no7) (T.obj _ _ at7)) r7 (step x H7 y7)) fun _ s8 ⟨σ8, H8, I8, hw8, q8⟩ => ?_
    refine wpAny_pure ?_
    simp only [if_true]
    refine thnF (pe.run _ s8 σ8 H8 _ I8 q8) fun z s9 ⟨yv, H9, I9, r9, c, S0, n0, ey, hZ9, hz9, nx⟩ => ?_
    subst ey
    refine put_int (X := X.blk s3 H3 sc ce fr) I9 r9 hZ9 hz9 fun s10 I10 => ?_
    obtain ⟨m2, hm2, w2⟩ := hNx _ nx
    have pinned : ∀ b ∈ fr, ∀ o, s7.heap.get? b = some o → s10.heap.get? b = some o ∧ (upd H9 Z (SetO X.w Z (incl S0 c) (incn S0 c n0))) b = none := fun b hb o e =>
      let q := I10.pin (b, o) (List.mem_append_right _ (List.mem_append_right _ (mem_pinsAt hb e)))
      ⟨q.1, q.2.1⟩
    refine ⟨m2, hm2, i + 1, _, (I10.unpinned (pins := [])).weak (by rw [← hw8, wipe_length]) (fun j v e => ?_), T.keep _ _ _ at7 fun b hb o e => (pinned b hb o e).1, fun b hb => ?_, w2⟩
    · rw [← hw8] at e; exact (wipe_some e).1
    · obtain ⟨o, e, _⟩ := T.obj _ _ at7 b hb
      exact (pinned b hb o e).2⟩
end
end My
set_option maxHeartbeats 2000000
/-! len({e for x in a list}), e an int -/
namespace My
open PySem PySem.Spec PyProof.Rows L2 Evl Mm
/-- the members and their number after so many -/
def scS : List Int → (Int → Bool) → Nat → (Int → Bool) × Nat
  | [], S, n => (S, n)
  | c :: cs, S, n => scS cs (incl S c) (incn S c n)
def cntD (cs : List Int) : Nat := (scS cs (fun _ => false) 0).2
theorem scS_snoc : ∀ (cs : List Int) (S : Int → Bool) (n : Nat) (c : Int), scS (cs ++ [c]) S n = (incl (scS cs S n).1 c, incn (scS cs S n).1 c (scS cs S n).2)
  | [], S, n, c => rfl
  | a :: cs, S, n, c => scS_snoc cs (incl S a) (incn S a n) c
theorem scS_le : ∀ (cs : List Int) (S : Int → Bool) (n : Nat), (scS cs S n).2 ≤ n + cs.length
  | [], S, n => Nat.le_refl _
  | c :: cs, S, n => by
    have h := scS_le cs (incl S c) (incn S c n)
    have h2 : incn S c n ≤ n + 1 := by unfold incn; split <;> omega
    show (scS cs (incl S c) (incn S c n)).2 ≤ n + (cs.length + 1)
    omega
theorem scS_nodup : ∀ (cs : List Int) (S : Int → Bool) (n : Nat), cs.Nodup → (∀ c ∈ cs, S c = false) → (scS cs S n).2 = n + cs.length
  | [], S, n, _, _ => rfl
  | c :: cs, S, n, hn, hS => by
    have hc := hS c List.mem_cons_self
    have h2 : incn S c n = n + 1 := by unfold incn; rw [if_neg (by rw [hc]; decide)]
    have hn2 := List.nodup_cons.mp hn
    have h := scS_nodup cs (incl S c) (incn S c n) hn2.2 fun x hx => by
      unfold incl
      rw [hS x (List.mem_cons_of_mem _ hx), Bool.false_or]; exact decide_eq_false fun z => hn2.1 (by rw [← z]; exact hx)
    show (scS cs (incl S c) (incn S c n)).2 = n + (cs.length + 1)
    omega
theorem scS_dup : ∀ (cs : List Int) (S : Int → Bool) (n : Nat), ¬(cs.Nodup ∧ ∀ c ∈ cs, S c = false) → (scS cs S n).2 < n + cs.length
  | [], S, n, h => absurd ⟨List.nodup_nil, fun c hc => nomatch hc⟩ h
  | c :: cs, S, n, h => by
    show (scS cs (incl S c) (incn S c n)).2 < n + (cs.length + 1)
    cases hc : S c with
    | true =>
      have h2 : incn S c n = n := by unfold incn; rw [if_pos hc]
      have := scS_le cs (incl S c) (incn S c n)
      omega
    | false =>
      have h2 : incn S c n = n + 1 := by unfold incn; rw [if_neg (by rw [hc]; decide)]
      have := scS_dup cs (incl S c) (incn S c n) fun z => h ⟨List.nodup_cons.mpr ⟨(fun hm => by
        have h5 := z.2 c hm
        unfold incl at h5
        rw [decide_eq_true rfl, Bool.or_true] at h5
        exact Bool.noConfusion h5), z.1⟩, fun x hx => by
          rcases List.mem_cons.mp hx with rfl | hx
          · exact hc
          · have := z.2 x hx
            unfold incl at this
            exact (Bool.or_eq_false_iff.mp this).1⟩
      omega
theorem cntD_nodup {cs : List Int} (h : cs.Nodup) : cntD cs = cs.length := (scS_nodup cs _ 0 h fun _ _ => rfl).trans (Nat.zero_add _)
theorem cntD_dup {cs : List Int} (h : ¬cs.Nodup) : cntD cs < cs.length := by
  have := scS_dup cs (fun _ => false) 0 fun z => h z.1
  rw [Nat.zero_add] at this
  exact this
theorem ev_lenSc {K : PySem.W.Frag} {w : World} {σ : L2.St} {H : Hp} {tl te : TE} {a : Addr} {xs : List V} {cs : List Int} {j : Nat} {vs : List Nat} (ha : Ev tl σ H (.ref a)) (hx : SqL K H a xs) (hl : cs.length = xs.length) (hs : xs.length + 1 < scanBound)
    (hw : ∀ x, wipe ((wipe σ vs).set j (some x)) vs = wipe σ vs) (he : ∀ (i : Nat) (x : V) (c : Int) (H' : Hp), Ex H H' → xs[i]? = some x → cs[i]? = some c → Ev te ((wipe σ vs).set j (some x)) H' (.int c)) :
    Ev (tCB (rLenSt w) (tCons (tScI w (iList K tl) (gName j) te vs) tNil)) σ H (.int (cntD cs : Nat)) := by
    intro H1 e1 Q q
    unfold tCB tCons tScI tNil
    refine gets_list (K := K) (ha.mono e1) (ex_l e1 hx) _ fun H2 e2 => ?_
    intro Z hZ
    have e12 := e1.trans e2
    have wk : Walk (Itl K a) xs.length (fun H => SqL K H a xs) (YAt xs) := walk_list
    have exZ : ∀ {H' : Hp} {o : HO}, Ex H2 H' → Ex H2 (upd H' Z o) := fun {H' o} ex b ob hb => by
      rw [upd_ne (by rintro rfl; rw [hZ] at hb; cases hb)]; exact ex b ob hb
    refine ⟨fun i m H' => m = xs.length - i ∧ i ≤ xs.length ∧ Ex H2 H' ∧ H' Z = some (SetO w Z (scS (cs.take i) (fun _ => false) 0).1 (scS (cs.take i) (fun _ => false) 0).2), ⟨xs.length, rfl, Nat.zero_le _, exZ (Ex.refl _), upd_same⟩, ?_⟩
    rintro i m H3 ⟨rfl, hi, ex, hz⟩
    have hx3 := ex_l (e12.trans ex) hx
    by_cases hlt : i < xs.length
    · refine .inr ⟨wk.goes i H3 hlt hx3, fun H' => Ex H2 H' ∧ H' Z = some (SetO w Z (scS (cs.take (i + 1)) (fun _ => false) 0).1 (scS (cs.take (i + 1)) (fun _ => false) 0).2), fun H' p => ⟨xs.length - (i + 1), by omega, rfl, hlt, p.1, p.2⟩, fun x H4 y => ?_⟩
      obtain ⟨rfl, hxi⟩ := wk.yields i H3 x H4 hlt hx3 y
      have hci : cs[i]? = some (cs[i]'(by omega)) := List.getElem?_eq_getElem (by omega)
      refine ⟨hw x, he i x _ H4 (e12.trans ex) hxi hci H4 (Ex.refl _) _ fun H5 e5 => ⟨_, _, _, rfl, e5 Z _ hz, ?_, ?_⟩⟩
      · have := scS_le (cs.take i) (fun _ => false) 0
        rw [List.length_take] at this
        omega
      · have ht : cs.take (i + 1) = cs.take i ++ [cs[i]'(by omega)] := by rw [List.take_succ, hci]; rfl
        refine ⟨exZ (ex.trans e5), ?_⟩
        rw [ht, scS_snoc]
        exact upd_same
    · obtain rfl : i = xs.length := by omega
      refine .inl ⟨wk.stops H3 hx3, Z, _, _, rfl, hz, ?_⟩
      rw [List.take_of_length_le (by omega)]
      exact q H3 (e2.trans ex)
end My
set_option maxHeartbeats 2000000
/-! new tuples in a new list; how many unlike tuples a list has -/
namespace My
open PySem PySem.Spec PyProof.Rows L2 Evl Mm
section
variable {K : PySem.W.Frag} {σ : L2.St} {H : Hp} {ta tb tc te tl : TE} {x y v : V} {D : Ends} {tz : TS}
theorem lc_tups {Q : VK} {wi : TI} {J : It} {n j : Nat} {G : Hp → Prop} {Y : Nat → Hp → V → Hp → Prop} {vs : List Nat} (F : Nat → List V) (h : Gets wi σ H J) (w : Walk J n G Y) (hG : ∀ H', Ex H H' → G H') (hy : ∀ i H1 x H2, Y i H1 x H2 → H2 = H1) (hn : n ≤ 40000) (hw : ∀ x, wipe ((wipe σ vs).set j (some x)) vs = wipe σ vs)
    (he : ∀ (m : Nat) (x : V) (H' : Hp), m < n → Ex H H' → Y m H' x H' → EvU te ((wipe σ vs).set j (some x)) H' (F m)) (k : ∀ (o : Addr) (ts : List Addr) (H1 : Hp), Ex H H1 → H o = none → H1 o = some (.lst (ts.map V.ref)) → ts.length = n → (∀ (i : Nat) (t : Addr), ts[i]? = some t → H1 t = some (.tup (F i))) → Q (.ref o) H1) : tLc wi (gName j) tYes te vs σ H Q := by
  refine lcW h w (fun D m H' => ∃ ts : List Addr, Ex H H' ∧ H D = none ∧ H' D = some (.lst (ts.map V.ref)) ∧ ts.length = m ∧ (∀ (j : Nat) (b : Addr), ts[j]? = some b → H' b = some (.tup (F j)))) (fun D H1 e1 hD => ?_) (fun D m H' _ p => ?_) (fun D m x H' H2 hm p yy => ?_) (fun D H' p => ?_)
  · exact ⟨[], e1.mut (fresh_back e1 hD), fresh_back e1 hD, upd_same, rfl, fun j b h => by simp at h⟩
  · obtain ⟨ts, e, _⟩ := p; exact hG _ e
  · obtain ⟨ts, e, hD0, hD, hl, hr⟩ := p
    obtain rfl := hy _ _ _ _ yy
    refine ⟨hw x, et_yes _ (Ex.refl _) _ fun H3 e3 => ?_⟩
    rw [if_pos rfl]
    refine he m x _ hm e yy H3 e3 _ fun p H4 np e4 hp => ?_
    have hD4 := e4 D _ (e3 D _ hD)
    have pD : p ≠ D := fun z => by rw [z, e3 D _ hD] at np; cases np
    refine ⟨_, hD4, sz_lt (by rw [List.length_map]; omega), ts ++ [p], ((e.trans e3).trans e4).mut hD0, hD0, by rw [upd_same, List.map_append]; rfl, by rw [List.length_append, hl]; rfl, fun q c hc => ?_⟩
    by_cases hq : q < ts.length
    · rw [List.getElem?_append_left hq] at hc
      have h5 := e4 _ _ (e3 _ _ (hr q c hc))
      rw [upd_ne (fun z => by rw [z, hD4] at h5; cases h5)]
      exact h5
    · rw [List.getElem?_append_right (by omega)] at hc
      have hq0 : q - ts.length = 0 := by
        have := (List.getElem?_eq_some_iff.mp hc).1
        simp at this; omega
      rw [hq0] at hc
      cases hc
      rw [upd_ne pD]
      have : q = m := by omega
      rw [this]
      exact hp
  · obtain ⟨ts, e, hD0, hD, hl, hr⟩ := p
    exact k D ts H' e hD0 hD hl hr
end
/-- len(set(xs)), xs a list of tuples of ints -/
theorem ev_lenSetT {K : PySem.W.Frag} {P : Program} {w : World} {σ : L2.St} {H : Hp} {te : TE} {l : Addr} {ks : List (Addr × List Int)} {z : Int} (ha : Ev te σ H (.ref l)) (hl : SqL K H l (ks.map fun p => V.ref p.1)) (hk : ∀ p ∈ ks, SqT K H p.1 (p.2.map V.int)) (hf : ks.length < 64)
    (hz : ∀ L : List (List Int), L.Nodup → (∀ x, x ∈ L ↔ x ∈ ks.map (·.2)) → (L.length : Int) = z) : Ev (tCB (rLenST K P w) (tCons (tCB (rSetOfT K P w) (tCons te tNil)) tNil)) σ H (.int z) := by
  intro H1 e Q q
  unfold tCB tCons tNil
  refine ha H1 e _ fun H2 e2 => ⟨l, ks, rfl, ex_l (e.trans e2) hl, fun p hp => ex_t (e.trans e2) (hk p hp), hf, fun a L hn hs hm => ⟨a, L, rfl, upd_same, fun p hp => ex_t ((e.trans e2).trans (Ex.new hn)) (hk p (hs p hp)), fun nd => ?_⟩⟩
  have h := hz (L.map (·.2)) nd fun x => ⟨fun hx => ?_, fun hx => ?_⟩
  · rw [List.length_map] at h
    rw [h]
    exact q _ (e2.trans (Ex.new hn))
  · obtain ⟨p, hp, rfl⟩ := List.mem_map.mp hx
    exact List.mem_map.mpr ⟨p, hs p hp, rfl⟩
  · obtain ⟨p, hp, rfl⟩ := List.mem_map.mp hx
    exact hm p hp
/-- as many unlike ones as there are, exactly if none stands twice -/
theorem len_nodup {α : Type} [DecidableEq α] {A B : List α} (hA : A.Nodup) (h : ∀ x, x ∈ A ↔ x ∈ B) : A.length = B.length ↔ B.Nodup := by
  constructor
  · intro hl
    refine Classical.byContradiction fun hB => ?_
    have h2 : ∃ x ∈ B, x ∈ B.erase x := by
      refine Classical.byContradiction fun hn => hB ?_
      clear hl h hB
      induction B with
      | nil => exact List.nodup_nil
      | cons b B ih =>
        refine List.nodup_cons.mpr ⟨fun hm => hn ⟨b, List.mem_cons_self, by rw [List.erase_cons_head]; exact hm⟩, ih fun ⟨x, hx, hx2⟩ => hn ⟨x, List.mem_cons_of_mem _ hx, ?_⟩⟩
        by_cases hb : b = x
        · rw [hb, List.erase_cons_head]; exact hx
        · rw [List.erase_cons_tail (by simpa using hb)]; exact List.mem_cons_of_mem _ hx2
    obtain ⟨x, hx, hx2⟩ := h2
    have h3 := nodup_sub A (B.erase x) hA fun y hy => by
      have hyB := (h y).mp hy
      by_cases hyx : y = x
      · rw [hyx]; exact hx2
      · exact (List.mem_erase_of_ne hyx).mpr hyB
    rw [List.length_erase_of_mem hx] at h3
    have : 0 < B.length := List.length_pos_iff.mpr (List.ne_nil_of_mem hx)
    omega
  · intro hB
    exact ((List.perm_ext_iff_of_nodup hA hB).mpr h).length_eq
end My
set_option maxHeartbeats 2000000
/-! tuples made by tuple(a list) whose methods are called, without the nets -/
namespace My
open PySem PySem.Spec PyProof.Rows L2 Evl Mm
/-- tuple(a list): a tuple of which it is known that it has no names of its own -/
def rTupF (K : PySem.W.Frag) : List V → Hp → VK → Prop := fun xs H Q => ∃ p ys, xs = [V.ref p] ∧ SqL K H p ys ∧ ∀ l ob, H l = none → ob.cls = .type "tuple" → ob.dict = none → Q (.ref l) (upd H l (.frz ob (.tup ys)))
theorem call_tupleF {X : Cx} {K : PySem.W.Frag} (h : X.K = K) : CallR X (.type "tuple") (rTupF K) := by
  subst h
  intro pins s σ H xs us Q I r h
  obtain ⟨p, ys, rfl, hq, q⟩ := h
  obtain ⟨u, rfl, rx⟩ := vals1 r
  cases rx
  obtain ⟨its, r', pl, hz⟩ := I.list hq
  have hlen := r'.length
  refine call_tuple_list pl.isList (fun h' kp => ?_) (by simp only [List.size_toArray] <;> omega)
  have I1 : Inv X pins σ H { s with heap := h' } := I.kept (t' := s.toks) kp
  have I2 : Inv X pins σ (upd H h'.objs.size (.frz { cls := .type "tuple", data := .seq its.toArray } (.tup ys))) { s with heap := h'.push { cls := .type "tuple", data := .seq its.toArray } } :=
    I1.laid (t' := s.toks) (fun b o e => Heap.get?_push_of_some _ e) (Nat.le_refl _) ⟨Heap.get?_push_size _ rfl, hz, its, r', ⟨_, Heap.get?_push_size _ rfl, rfl, _, rfl⟩⟩
  exact ⟨.ref h'.objs.size, _, I2, rfl, q _ { cls := .type "tuple", data := .seq its.toArray } (I1.hok.fresh (Nat.le_refl _)) rfl rfl⟩
theorem pe_idxF {X : Cx} {K : PySem.W.Frag} (h : X.K = K) {o e : Expr} {es : List Expr} {to : TE} {t : TA} {apos cpos : Pos} (ho : PE X o to) (hg : PA X (e :: es) t)
    (h1 : attributeBase o "index" X.env (eval o X.env) = eval o X.env := by rfl)
    (h2 : ((((backTo cpos (starEach (e :: es) X.env)).all fun x => !x.fst) && (backToKw cpos (keywordEach [] X.env)).all fun x => x.fst.isSome) && decide (((e :: es).length + ([] : List Keyword).length + if ([] : List Keyword).isEmpty = true then 0 else 1) < 30)) = true := by rfl)
    (h3 : (apos.endLine == cpos.line) = true := by rfl) (h4 : starEach (e :: es) X.env = (false, eval e X.env) :: starEach es X.env := by rfl) (h5 : ((backTo cpos (starEach es X.env)).any fun x => x.fst) = false := by rfl) :
    PE X (.Call (.Attribute o "index" apos) (e :: es) [] cpos) (tMG tyFrz (rIndexT K) to t) :=
  h ▸ pe_mG ty_frz PySem.F.plainAttrs_tuple PySem.F.slot_tuple_index PySem.F.type_tuple_index mt_indexT ho hg h1 h2 h3 h4 h5
def Frz (H : Hp) (u : V) : Prop := ∃ b ob xs, u = .ref b ∧ H b = some (.frz ob (.tup xs)) ∧ ob.cls = .type "tuple" ∧ ob.dict = none
theorem Frz.mono {H H' : Hp} {u : V} (e : Ex H H') (h : Frz H u) : Frz H' u := by
  obtain ⟨b, ob, xs, h1, h2, h3⟩ := h
  exact ⟨b, ob, xs, h1, e _ _ h2, h3⟩
/-- a square of which the rows are such tuples -/
def FrzS (K : PySem.W.Frag) (H : Hp) (u : V) (sq : List (List Int)) : Prop := ∃ a rows, u = V.ref a ∧ SqT K H a rows ∧ DpAll K H rows (sq.map (rowD true)) ∧ ∀ r ∈ rows, Frz H r
theorem FrzS.mono {K : PySem.W.Frag} {H H' : Hp} {u : V} {sq : List (List Int)} (e : Ex H H') (h : FrzS K H u sq) : FrzS K H' u sq := by
  obtain ⟨a, rows, h1, h2, h3, h4⟩ := h
  exact ⟨a, rows, h1, ex_t e h2, dpAll_mono e _ _ h3, fun r hr => (h4 r hr).mono e⟩
def FrzF (K : PySem.W.Frag) (H : Hp) (us : List V) (fam : List (List (List Int))) : Prop := us.length = fam.length ∧ ∀ (k : Nat) (u : V) (sq : List (List Int)), us[k]? = some u → fam[k]? = some sq → FrzS K H u sq
theorem FrzF.mono {K : PySem.W.Frag} {H H' : Hp} {us : List V} {fam : List (List (List Int))} (e : Ex H H') (h : FrzF K H us fam) : FrzF K H' us fam := ⟨h.1, fun k u sq hu hs => (h.2 k u sq hu hs).mono e⟩
theorem FrzF.nil {K : PySem.W.Frag} {H : Hp} : FrzF K H [] [] := ⟨rfl, fun k u sq h => by simp at h⟩
theorem FrzF.snoc {K : PySem.W.Frag} {H : Hp} {us : List V} {fam : List (List (List Int))} {v : V} {sq : List (List Int)} (h : FrzF K H us fam) (hv : FrzS K H v sq) : FrzF K H (us ++ [v]) (fam ++ [sq]) := by
  refine ⟨by rw [List.length_append, List.length_append, h.1]; rfl, fun k u s hu hs => ?_⟩
  by_cases hk : k < us.length
  · rw [List.getElem?_append_left hk] at hu
    rw [List.getElem?_append_left (by rw [← h.1]; exact hk)] at hs
    exact h.2 k u s hu hs
  · rw [List.getElem?_append_right (by omega)] at hu
    rw [List.getElem?_append_right (by rw [← h.1]; omega), ← h.1] at hs
    have h0 : k - us.length = 0 := by
      have := (List.getElem?_eq_some_iff.mp hu).1
      simp at this; omega
    rw [h0] at hu hs
    cases hu
    cases hs
    exact hv
theorem frz_sq {K : PySem.W.Frag} {H : Hp} {b : Addr} {ob : Obj} {xs : List V} (h : H b = some (.frz ob (.tup xs))) : SqT K H b xs := .inl (.inr ⟨ob, h⟩)
section
variable {K : PySem.W.Frag} {σ : L2.St} {H : Hp} {ta tb te : TE} {D : Ends} {y : V}
def EvFz (te : TE) (σ : L2.St) (H : Hp) (xs : List V) : Prop := ∀ H1, Ex H H1 → ∀ Q : VK, (∀ p ob H2, H1 p = none → Ex H1 H2 → ob.cls = .type "tuple" → ob.dict = none → H2 p = some (.frz ob (.tup xs)) → Q (.ref p) H2) → te σ H1 Q
theorem ef_tupleN {xs : List V} (ha : EvL ta σ H xs) : EvFz (tCB (rTupF K) (tCons ta tNil)) σ H xs := fun H1 e Q q =>
  ha H1 e _ fun p H2 hp e2 h2 => ⟨p, xs, rfl, sq_of h2, fun l ob hl hc hd => q l ob _ (fresh_back e2 hl) (e2.trans (Ex.new hl)) hc hd upd_same⟩
theorem s_appF {l : Addr} {xs ys : List V} (hl : H l = some (.lst xs)) (ha : Ev ta σ H (.ref l)) (h : EvFz te σ H ys) (hz : xs.length < 100000) (k : ∀ p ob H1, H p = none → Ex H H1 → ob.cls = .type "tuple" → ob.dict = none → H1 p = some (.frz ob (.tup ys)) → D.nx σ (upd H1 l (.lst (xs ++ [.ref p])))) :
    tDrop (tBM K "list" rAppend ta (tCons te tNil)) D σ H := ha H (Ex.refl H) _ fun H1 e1 =>
  ⟨Or.inl ⟨rfl, xs, sq_of (e1 l _ hl)⟩, h H1 e1 _ fun p ob H2 hp e2 hc hd h2 => ⟨l, xs, .ref p, rfl, rfl, e2 l _ (e1 l _ hl), sz_lt hz, k p ob H2 (fresh_back e1 hp) (e1.trans e2) hc hd h2⟩⟩
/-- row.index(y) -/
theorem ev_idxF {ns : List Int} {b : Addr} {p : Nat} {z : Int} (h : Ev ta σ H (.ref b)) (hf : Frz H (.ref b)) (hx : SqT K H b (ns.map V.int)) (hb : Ev tb σ H (.int z)) (hz : ns[p]? = some z) (hno : ∀ m z', m < p → ns[m]? = some z' → z' ≠ z) :
    Ev (tMG tyFrz (rIndexT K) ta (tCons tb tNil)) σ H (.int (p : Int)) := fun H1 e Q q => h H1 e _ fun H2 e2 => by
  obtain ⟨b', ob, xs, hbb, hg, hc, hd⟩ := hf
  cases hbb
  refine ⟨⟨b, ob, _, rfl, (e.trans e2) b _ hg, hc, hd⟩, hb H2 (e.trans e2) _ fun H3 e3 => ?_⟩
  refine ⟨b, _, .int z, p, .int z, rfl, rfl, ex_t ((e.trans e2).trans e3) hx, rfl, ?_, by rw [List.getElem?_map, hz]; rfl, ?_, fun m z' hm e4 => ?_, q H3 (e2.trans e3)⟩
  · rw [List.all_eq_true]
    intro x hx
    obtain ⟨n, _, rfl⟩ := List.mem_map.mp hx
    rfl
  · show (z == z) = true
    exact beq_self_eq_true z
  · obtain ⟨n, hn, rfl⟩ := ints_get e4
    show (n == z) = false
    exact beq_eq_false_iff_ne.mpr (hno m n hm hn)
end
end My
namespace My
open PySem PySem.Spec PyProof.Rows L2 Evl Mi Mm
def top (i : Nat) : Stmt := PySem.Challenge.pw_matedsquares_k27_parts_and_mates.main.body.getD i (.Pass ⟨0, 0, 0, 0⟩)
abbrev s_square_rows : Stmt := top 6
theorem sc_square_rows : FnScope ["rows", "size", "row", "column"] ["rows"] (defScope s_square_rows) := ⟨rfl, rfl, rfl, by decide +kernel, rfl, by decide +kernel, by decide +kernel⟩
abbrev s_is_arrangement : Stmt := top 7
theorem sc_is_arrangement : FnScope ["values", "size"] ["values", "size"] (defScope s_is_arrangement) := ⟨rfl, rfl, rfl, by decide +kernel, rfl, by decide +kernel, by decide +kernel⟩
abbrev s_is_integer : Stmt := top 8
theorem sc_is_integer : FnScope ["value"] ["value"] (defScope s_is_integer) := ⟨rfl, rfl, rfl, by decide +kernel, rfl, by decide +kernel, by decide +kernel⟩
abbrev s_kept_rows : Stmt := top 10
theorem sc_kept_rows : FnScope ["rows"] ["rows"] (defScope s_kept_rows) := ⟨rfl, rfl, rfl, by decide +kernel, rfl, by decide +kernel, by decide +kernel⟩
abbrev s__law_row : Stmt := top 19
theorem sc__law_row : FnScope ["cell", "many", "row", "rest", "mixed", "k"] ["cell", "many"] (defScope s__law_row) := ⟨rfl, rfl, rfl, by decide +kernel, rfl, by decide +kernel, by decide +kernel⟩
abbrev s__law_numbers : Stmt := top 20
theorem sc__law_numbers : FnScope ["script", "many", "cells", "each", "numbers", "cell", "number"] ["script", "many"] (defScope s__law_numbers) := ⟨rfl, rfl, rfl, by decide +kernel, rfl, by decide +kernel, by decide +kernel⟩
structure Bt (mg : Str → Option Value) : Prop where
  range : mg "range" = none
  len : mg "len" = none
  int : mg "int" = none
  abs : mg "abs" = none
  max : mg "max" = none
  min : mg "min" = none
  list : mg "list" = none
  tuple : mg "tuple" = none
  reversed : mg "reversed" = none
  enumerate : mg "enumerate" = none
  zip : mg "zip" = none
  isinstance : mg "isinstance" = none
  bool : mg "bool" = none
  repr : mg "repr" = none
  all : mg "all" = none
  sorted : mg "sorted" = none
  any : mg "any" = none
  divmod : mg "divmod" = none
  set : mg "set" = none
structure Ct (mg : Str → Option Value) : Prop where
  GREATEST_PRIME : ∃ t, mg "GREATEST_PRIME" = some (.int 1000000 t)
  GREATEST_DEGREE : ∃ t, mg "GREATEST_DEGREE" = some (.int 12 t)
  GREATEST_PRIME_OF_POWERS : ∃ t, mg "GREATEST_PRIME_OF_POWERS" = some (.int 97 t)
  GREATEST_POWER : ∃ t, mg "GREATEST_POWER" = some (.int 1000000000000000 t)
section
variable {P : Program} {w : World} {K : PySem.W.Frag} {mg : Str → Option Value} {base : Heap}
/-! ### the law's numbers -/
def small (x : Int) : Prop := 0 ≤ x ∧ x < 1009
def spRow : Sp := fun vs H Q _ => ∃ c m : Int, vs = [.int c, .int m] ∧ (0 ≤ m ∧ m ≤ 1000) ∧ RetS m.toNat small H Q
theorem snoc_all {G : Int → Prop} {ns : List Int} {z : Int} (h : ∀ x ∈ ns, G x) (hz : G z) : ∀ x ∈ ns ++ [z], G x := fun x hx => by
  rcases List.mem_append.mp hx with e | e
  · exact h x e
  · rw [List.mem_singleton.mp e]; exact hz
theorem ok__law_row (D : Df K mg "_law_row" s__law_row ["cell", "many"]) (B : Bt mg) : Cd P w K mg base 1 "_law_row" spRow := by
  refine D.ok sc__law_row (fun vs H Q E h => ?_) (fun f cdv A outer s H vs Q E hr h => ?_)
  · obtain ⟨c, m, rfl, _⟩ := h; rfl
  · obtain ⟨c, m, rfl, hm, q⟩ := h
    refine ⟨_, (pss_cons (ps_set (i := 2) sc__law_row.nd rfl (Or.inl rfl) (pe_lst pa_nil))
      (pss_cons (ps_set (i := 3) sc__law_row.nd rfl (Or.inl rfl) (pe_callB call_abs (by rfl) B.abs boot_abs (pa_cons (pv 0) pa_nil)))
      (pss_cons (ps_set (i := 4) sc__law_row.nd rfl (Or.inl rfl) (pe_op op_mod (pe_callTy call_int1 (by rfl) B.int boot_int (pa_cons (pe_op op_add (pe_op op_mul (pv 3) pe_int) pe_int) pa_nil)) pe_int))
      (pss_cons (ps_for PassesOwn.never rfl (pi_range1 (by rfl) B.range (pa_cons (pv 1) pa_nil)) (pg_name (i := 5) sc__law_row.nd rfl (Or.inl rfl)) (pss_cons (ps_set (i := 4) sc__law_row.nd rfl (Or.inl rfl) (pe_op op_mod (pe_callTy call_int1 (by rfl) B.int boot_int (pa_cons (pe_op op_add (pe_op op_mul (pv 4) pe_int) (pe_op op_mul pe_int (pe_op op_add (pv 5) pe_int))) pa_nil)) pe_int))
          (pss_one (ps_if (pt_cmpR op_ge (pe_callB call_abs (by rfl) B.abs boot_abs (pa_cons (pv 0) pa_nil)) (pe_op op_pow pe_int pe_int) (nomark _)) (pss_cons (ps_expr (pe_bm PySem.F.plainAttrs_list PySem.F.slot_list_append PySem.F.type_list_append mt_append (pv 2) (pa_cons (pe_op op_mod (pe_callTy call_int1 (by rfl) B.int boot_int (pa_cons (pv 3) pa_nil)) pe_int) pa_nil)))
            (pss_one (ps_set (i := 3) sc__law_row.nd rfl (Or.inl rfl) (pe_op op_fdiv (pv 3) pe_int)))) (pss_one (ps_expr (pe_bm PySem.F.plainAttrs_list PySem.F.slot_list_append PySem.F.type_list_append mt_append (pv 2) (pa_cons (pe_op op_mod (pe_callTy call_int1 (by rfl) B.int boot_int (pa_cons (pe_op op_fdiv (pv 4) pe_int) pa_nil)) pe_int) pa_nil))))))))
      (pss_one (ps_ret (pv 2))))))), ?_⟩
    refine q_asgL (el_lst ea_nil (by decide)) fun o H1 no e1 ho => ?_
    refine q_asg (ev_abs (ea_cons (ev_var rfl) ea_nil)) fun H2 e2 => ?_
    refine q_asg (ev_op (ev_int (ea_cons (ev_op (ev_op (ev_var rfl) ev_c (rv_I (.inr ⟨by decide, by decide⟩))) ev_c rv_I0) ea_nil)) ev_c (rv_I (by decide))) fun H3 e3 => ?_
    refine q_forW (gets_r1 (n := m) (ev_var rfl) (by omega)) walk_range (fun i σ' H' => ∃ (ns : List Int) (r x : Int) (y : Option V), σ' = [some (.int c), some (.int m), some (.ref o), some (.int r), some (.int x), y] ∧ Ex H H' ∧ H' o = some (.lst (ns.map V.int)) ∧ ns.length = i ∧ i ≤ 1000 ∧ ∀ z ∈ ns, small z) ?_ ?_ ?_ ?_
    · intro H4 e4
      exact ⟨[], _, _, none, rfl, ((e1.trans e2).trans e3).trans e4, e4 o _ (e3 o _ (e2 o _ ho)), rfl, by omega, fun _ h => nomatch h⟩
    · intros; trivial
    · rintro i x σ' H' H4 hi ⟨ns, r, x, y, rfl, e, h, hl, h1000, hs⟩ ⟨rfl, rfl⟩
      have hmod : ∀ z : Int, small (z % 1009) := fun z => ⟨Int.emod_nonneg _ (by decide), Int.emod_lt_of_pos _ (by decide)⟩
      refine q_asg (ev_op (ev_int (ea_cons (ev_op (ev_op (ev_var rfl) ev_c (rv_I (.inr ⟨by decide, by decide⟩))) (ev_op ev_c (ev_op (ev_var rfl) ev_c rv_I0) (rv_I (.inl ⟨by decide, by decide⟩))) rv_I0) ea_nil)) ev_c (rv_I (by decide))) fun H5 e5 => ?_
      refine s_if (et_test (ev_op (ev_abs (ea_cons (ev_var rfl) ea_nil)) (ev_op ev_c ev_c (rv_I ⟨by decide, by decide, by decide⟩)) rv_I0)) (fun hb H6 e6 => ?_) (fun hb H6 e6 => ?_)
      · refine q_app (e6 o _ (e5 o _ h)) (ev_var rfl) (ev_op (ev_int (ea_cons (ev_var rfl) ea_nil)) ev_c (rv_I (by decide))) (by rw [List.length_map]; omega) fun H7 e7 => ?_
        refine s_asg (ev_op (ev_var rfl) ev_c (rv_I ⟨by decide, by decide⟩)) fun H8 e8 => ?_
        exact ⟨ns ++ [r % 1009], _, _, _, rfl, ((((e.trans e5).trans e6).trans e7).mut no).trans e8, by rw [List.map_append]; exact e8 o _ upd_same, by rw [List.length_append]; show ns.length + 1 = _; omega, by omega, snoc_all hs (hmod _)⟩
      · refine s_app (e6 o _ (e5 o _ h)) (ev_var rfl) (ev_op (ev_int (ea_cons (ev_op (ev_var rfl) ev_c (rv_I ⟨by decide, by decide⟩)) ea_nil)) ev_c (rv_I (by decide))) (by rw [List.length_map]; omega) fun H7 e7 => ?_
        refine ⟨ns ++ [_], r, _, _, rfl, (((e.trans e5).trans e6).trans e7).mut no, by rw [List.map_append]; exact upd_same, by rw [List.length_append]; show ns.length + 1 = _; omega, by omega, snoc_all hs (hmod _)⟩
    · rintro σ' H' ⟨ns, r, x, y, rfl, e, h, hl, h1000, hs⟩
      refine s_ret (ev_var rfl) fun H4 e4 => ?_
      exact q o H4 ns no (e.trans e4) (e4 o _ h) hl hs
def spNumbers (K : PySem.W.Frag) : Sp := fun vs H Q _ => ∃ (a : Addr) (ns : List Int) (m : Int), vs = [.ref a, .int m] ∧ SqL K H a (ns.map V.int) ∧ (0 ≤ m ∧ m ≤ 900) ∧ RetS m.toNat small H Q
theorem ok__law_numbers (D : Df K mg "_law_numbers" s__law_numbers ["script", "many"]) (B : Bt mg) (c__law_row : Cd P w K mg base 1 "_law_row" spRow) : Cd P w K mg base 2 "_law_numbers" (spNumbers K) := by
  refine D.ok sc__law_numbers (fun vs H Q E h => ?_) (fun f cdv A outer s H vs Q E hr h => ?_)
  · obtain ⟨a, ns, m, rfl, _⟩ := h; rfl
  · obtain ⟨a, ns, m, rfl, hS, hm, q⟩ := h
    refine ⟨_, (pss_cons (ps_set (i := 2) sc__law_numbers.nd rfl (Or.inl rfl) (pe_slice (sl_listK (K := K) rfl) (pv 0) po_none (po_some pe_int)))
      (pss_cons (ps_set (i := 3) sc__law_numbers.nd rfl (Or.inl rfl) (pe_op op_add pe_int (pe_op op_fdiv (pv 1) (pe_callB (call_max2 rfl) (by rfl) B.max boot_max (pa_cons pe_int (pa_cons (pe_callB (call_lenK (K := K) rfl) (by rfl) B.len PySem.boot_len (pa_cons (pv 2) pa_nil)) pa_nil))))))
      (pss_cons (ps_set (i := 4) sc__law_numbers.nd rfl (Or.inl rfl) (pe_lst pa_nil))
      (pss_cons (ps_for PassesOwn.never rfl (pi_listK (K := K) rfl (pv 2)) (pg_name (i := 5) sc__law_numbers.nd rfl (Or.inl rfl)) (pss_one (ps_for PassesOwn.never rfl (pi_listK (K := K) rfl (pe_cd c__law_row hr (by first | decide | omega) (by rfl) (pa_cons (pv 5) (pa_cons (pv 3) pa_nil)))) (pg_name (i := 6) sc__law_numbers.nd rfl (Or.inl rfl)) (pss_one (ps_expr (pe_bm PySem.F.plainAttrs_list PySem.F.slot_list_append PySem.F.type_list_append mt_append (pv 4) (pa_cons (pv 6) pa_nil)))))))
      (pss_cons (ps_while PassesOwn.never (pt_cmpR op_lt (pe_callB (call_lenK (K := K) rfl) (by rfl) B.len PySem.boot_len (pa_cons (pv 4) pa_nil)) (pv 1) (nomark _)) (pss_one (ps_expr (pe_bm PySem.F.plainAttrs_list PySem.F.slot_list_append PySem.F.type_list_append mt_append (pv 4) (pa_cons pe_int pa_nil)))))
      (pss_one (ps_ret (pe_slice (sl_listK (K := K) rfl) (pv 4) po_none (po_some (pv 1)))))))))), ?_⟩
    refine q_asgL (el_slice (hi := some ((63 : Nat) : Int)) (ev_var rfl) hS evo_none (evo_some ev_c)) fun c H1 nc e1 hc => ?_
    rw [cut_to, ← List.map_take] at hc
    have hcl : (ns.take 63).length ≤ 63 := by rw [List.length_take]; omega
    generalize ns.take 63 = cs at *
    have hM : ∀ l : Int, 0 ≤ l → l ≤ 63 → (1 ≤ (if l > 1 then l else 1) ∧ (if l > 1 then l else 1) ≤ 63) := fun l h0 h1 => by split <;> omega
    have hlen : ((cs.map V.int).length : Int) = (cs.length : Int) := by rw [List.length_map]
    have hM1 := hM ((cs.map V.int).length : Int) (by omega) (by omega)
    refine q_asg (ev_op ev_c (ev_op (ev_var rfl) (ev_max2 (ea_cons ev_c (ea_cons (ev_lenL (ev_var rfl) (.inl (sq_of hc))) ea_nil))) (rv_I ⟨by omega, by omega⟩)) rv_I0) fun H2 e2 => ?_
    have hE : 0 ≤ 1 + m / (if ((cs.map V.int).length : Int) > 1 then ((cs.map V.int).length : Int) else 1) ∧ 1 + m / (if ((cs.map V.int).length : Int) > 1 then ((cs.map V.int).length : Int) else 1) ≤ 1000 := by
      generalize (if ((cs.map V.int).length : Int) > 1 then ((cs.map V.int).length : Int) else 1) = d at *
      have h1 : 0 ≤ m / d := Int.ediv_nonneg hm.1 (by omega)
      have h2 : m / d ≤ m := Int.ediv_le_self _ hm.1
      omega
    generalize 1 + m / (if ((cs.map V.int).length : Int) > 1 then ((cs.map V.int).length : Int) else 1) = each at *
    refine q_asgL (el_lst ea_nil (by decide)) fun o H3 no e3 ho => ?_
    have no' : H o = none := fresh_back (e1.trans e2) no
    have hco : c ≠ o := ne_of_none (e2 c _ hc) no
    refine q_forW (gets_list (ev_var rfl) (sq_of (e3 c _ (e2 c _ hc)))) (walk_list (xs := cs.map V.int)) (fun i σ' H' => ∃ (ks : List Int) (y1 y2 : Option V), σ' = [some (.ref a), some (.int m), some (.ref c), some (.int each), some (.ref o), y1, y2] ∧ Ex H H' ∧ H' c = some (.lst (cs.map V.int)) ∧ H' o = some (.lst (ks.map V.int)) ∧ ks.length = i * each.toNat ∧ ∀ z ∈ ks, small z) ?_ ?_ ?_ ?_
    · intro H4 e4
      exact ⟨[], none, none, rfl, ((e1.trans e2).trans e3).trans e4, e4 c _ (e3 c _ (e2 c _ hc)), e4 o _ ho, by rw [Nat.zero_mul]; rfl, fun _ h => nomatch h⟩
    · rintro i σ' H' _ ⟨_, _, _, rfl, _, h, _⟩; exact sq_of h
    · rintro i x σ' H' H4 hi ⟨ks, y1, y2, rfl, e, hc', ho', hk, hs⟩ ⟨rfl, hx⟩
      obtain ⟨z, hz, rfl⟩ := ints_get hx
      have hi63 : i < 63 := by rw [List.length_map] at hi; omega
      -- for number in _law_row(cell, each)
      refine evs_call (vs := [.int z, .int each]) (n := each.toNat) (G := small) (ea_cons (ev_var rfl) (ea_cons (ev_var rfl) ea_nil)) (fun H5 e5 Q q E => ⟨z, each, rfl, hE, q⟩) H4 (Ex.refl _) _ fun r H5 rs nr e5 hr5 hrl hrs => ?_
      refine ⟨r, rfl, ⟨_, sq_of hr5⟩, ?_⟩
      have hro : r ≠ o := fun z => by rw [z] at nr; rw [nr] at ho'; cases ho'
      have hrc : r ≠ c := fun z => by rw [z] at nr; rw [nr] at hc'; cases hc'
      refine for_it (walk_list (xs := rs.map V.int)) (fun j σ2 H6 => ∃ (y2 : Option V), σ2 = [some (.ref a), some (.int m), some (.ref c), some (.int each), some (.ref o), some (.int z), y2] ∧ Ex H H6 ∧ H6 c = some (.lst (cs.map V.int)) ∧ H6 r = some (.lst (rs.map V.int)) ∧ H6 o = some (.lst ((ks ++ rs.take j).map V.int))) ⟨y2, rfl, e.trans e5, e5 c _ hc', hr5, by rw [List.take_zero, List.append_nil]; exact e5 o _ ho'⟩ ?_ ?_ ?_
      · rintro j σ2 H6 _ ⟨_, rfl, _, _, h, _⟩; exact sq_of h
      · rintro j x σ2 H6 H7 hj ⟨y2', rfl, e6, hc6, hr6, ho6⟩ ⟨rfl, hx⟩
        obtain ⟨n, hn, rfl⟩ := ints_get hx
        have hjl : j < 1000 := by rw [List.length_map, hrl] at hj; omega
        refine s_app ho6 (ev_var rfl) (ev_var rfl) ?_ fun H8 e8 => ?_
        · have hle : i * each.toNat ≤ 63 * 1000 := Nat.mul_le_mul (by omega) (by omega)
          rw [List.length_map, List.length_append, List.length_take, hk]
          omega
        · exact ⟨_, rfl, (e6.trans e8).mut no', by rw [upd_ne hco]; exact e8 c _ hc6, by rw [upd_ne hro]; exact e8 r _ hr6, by rw [upd_same, take_at hn, ← List.append_assoc]; simp⟩
      · rintro σ2 H6 ⟨y2', rfl, e6, hc6, hr6, ho6⟩
        rw [List.length_map, List.take_length] at ho6
        refine ⟨ks ++ rs, _, _, rfl, e6, hc6, ho6, by rw [List.length_append, hk, hrl, Nat.add_mul, Nat.one_mul], fun x hx => ?_⟩
        rcases List.mem_append.mp hx with h | h
        · exact hs x h
        · exact hrs x h
    · rintro σ' H' ⟨ks, y1, y2, rfl, e, hc', ho', hk, hs⟩
      have hkl : ks.length ≤ 63000 := by
        have : cs.length * each.toNat ≤ 63 * 1000 := Nat.mul_le_mul hcl (by omega)
        rw [hk, List.length_map]; omega
      refine q_while (fun n σ2 H2 => ∃ (ks : List Int), σ2 = [some (.ref a), some (.int m), some (.ref c), some (.int each), some (.ref o), y1, y2] ∧ Ex H H2 ∧ H2 o = some (.lst (ks.map V.int)) ∧ n = m.toNat - ks.length ∧ ks.length ≤ 64000 ∧ ∀ z ∈ ks, small z) _ ⟨ks, rfl, e, ho', rfl, by omega, hs⟩ ?_
      rintro n σ2 H2 ⟨ks, rfl, e2', h2, hn, hkl, hs⟩
      refine ⟨_, et_test (ev_op (ev_lenL (ev_var rfl) (.inl (sq_of h2))) (ev_var rfl) rv_I0), fun hb H4 e4 => ?_, fun hb H4 e4 => ?_⟩
      · have hb' := of_decide_eq_true hb
        rw [List.length_map] at hb'
        refine ⟨fun σ3 H3 => ∃ m2, m2 < n ∧ ∃ (ks : List Int), σ3 = [some (.ref a), some (.int m), some (.ref c), some (.int each), some (.ref o), y1, y2] ∧ Ex H H3 ∧ H3 o = some (.lst (ks.map V.int)) ∧ m2 = m.toNat - ks.length ∧ ks.length ≤ 64000 ∧ ∀ z ∈ ks, small z, fun _ _ h => h, ?_⟩
        refine s_app (e4 o _ h2) (ev_var rfl) ev_c (by rw [List.length_map]; omega) fun H5 e5 => ?_
        refine ⟨m.toNat - (ks ++ [0]).length, ?_, ks ++ [0], rfl, ((e2'.trans e4).trans e5).mut no', by rw [upd_same, List.map_append]; rfl, rfl, ?_, snoc_all hs ⟨by decide, by decide⟩⟩
        · rw [List.length_append]; show m.toNat - (ks.length + 1) < n; omega
        · rw [List.length_append]; show ks.length + 1 ≤ _; omega
      · have hb' := of_decide_eq_false hb
        rw [List.length_map] at hb'
        refine s_retL (el_slice (hi := some ((m.toNat : Nat) : Int)) (ev_var rfl) (sq_of (e4 o _ h2)) evo_none (evo_some (ev_is (ev_var rfl) (congrArg V.int (show m = ((m.toNat : Nat) : Int) by omega))))) fun r H5 nr e5 hr5 => ?_
        rw [cut_to, ← List.map_take] at hr5
        refine q r H5 _ (fresh_back (e2'.trans e4) nr) ((e2'.trans e4).trans e5) hr5 (by rw [List.length_take]; omega) fun x hx => hs x (List.mem_of_mem_take hx)

theorem gN {i : Nat} {x : V} {σ : L2.St} {H : Hp} {Q : L2.St → Hp → Prop} (h : Q (σ.set i (some x)) H) : gName i x σ H Q := h
structure CtS (mg : Str → Option Value) : Prop where
  GREATEST_LISTED : ∃ t, mg "GREATEST_LISTED" = some (.int 12 t)
theorem id_is_integer (D : Df K mg "is_integer" s_is_integer ["value"]) (B : Bt mg) : IntDef K mg "is_integer" := intDef_of D sc_is_integer rfl rfl rfl rfl rfl B.isinstance B.int B.bool (by decide)
def spArr (K : PySem.W.Frag) (tp : Addr) : Sp := fun vs H Q _ => ∃ (a : Addr) (ns : List Int) (n : Nat), vs = [.ref a, .int (n : Int)] ∧ (SqL K H a (ns.map V.int) ∨ SqT K H a (ns.map V.int)) ∧ ns.length < 64 ∧ n ≤ 1000 ∧ H tp = some (tabO tp) ∧ RetV (.bl (ns.isPerm (iota n))) H Q
theorem ok_is_arrangement {ct tp : Addr} (DA : Dfc K mg "is_arrangement" s_is_arrangement ["values", "size"] ct) (B : Bt mg) (TB : GxR.TabB base mg ct tp) (hbP : ∀ o, base.get? tp ≠ some o) (ID : IntDef K mg "is_integer") : Cd P w K mg base 1 "is_arrangement" (spArr K tp) := by
  refine DA.ok sc_is_arrangement (fun vs H Q E h => ?_) (fun f A outer s H vs Q E hr h => ?_)
  · obtain ⟨a, ns, n, rfl, _⟩ := h; rfl
  · obtain ⟨a, ns, n, rfl, hS, hl, hn, hT, q⟩ := h
    refine ⟨_, (pss_one (ps_ret (pe_and (pe_allG (c := ct) (P := tp) hr (by rfl) B.all TB hbP rfl (gens_by (by decide +kernel)) (pv 0) (elt_isint hr ID (by rfl) (by rfl) (by rfl) (by decide) (by decide)) (fun _ => rfl)) (pe_one (pe_cmpR (op_eqDK (K := K) rfl (hu64 hr)) (pe_callB (cr_sortedK (K := K) rfl) (by rfl) B.sorted boot_sorted (pa_cons (pv 0) pa_nil)) (pe_listRg rfl (by rfl) B.list (prg_1 (by rfl) B.range (pv 1))) (nomark _)))))), ?_⟩
    refine s_ret (v := .bl (ns.isPerm (iota n))) (ev_is (ev_andV (a := true) (ev_is (ev_allG (ev_var rfl) hS ints_plain hT) (congrArg V.bl (ints_all ns))) fun _ => ev_eqD (b := ns.isPerm (iota n)) (evd_sorted (ev_var rfl) hS hl) (evd_LI (el_listRg (ev_var rfl) (by omega))) (plD_ints _) (plD_ints _) (by show PyData.depthAll _ + 1 ≤ 64; rw [depthAll_ints]; decide) (by show PyData.depthAll _ + 1 ≤ 64; rw [depthAll_ints]; decide) ?_) rfl) fun H1 e1 => q H1 e1
    rw [List.isPerm_iff, ← srtI_iota]
    exact ⟨fun e => by rw [e], fun e => pints_inj (by injection e)⟩
def spSqr (K : PySem.W.Frag) (tp Ci : Addr) : Sp := fun vs H Q E => ∃ (v : V) (B : Hp) (o i : Bool) (rows : List (List Int)), vs = [v] ∧ Ex B H ∧ Dp K B v (sqrD o i rows) ∧ rows.length ≤ 1000 ∧ (∀ r ∈ rows, r.length < 64) ∧ H tp = some (tabO tp) ∧
  (okSq rows = true → RetD K B (sqrD true true rows) H Q) ∧ (okSq rows = false → ∀ H1, Ex H H1 → E (.ref Ci) none H1)
theorem ok_square_rows {Ci tp : Addr} (D : Df K mg "square_rows" s_square_rows ["rows"]) (B : Bt mg) (CS : CtS mg) (E_InvalidSquare : ErrC K mg "InvalidSquare" Ci) (c_is_arrangement : Cd P w K mg base 1 "is_arrangement" (spArr K tp)) : Ce P w K mg base 2 "square_rows" (spSqr K tp Ci) := by
  refine D.okX sc_square_rows (fun vs H Q E h => ?_) (fun f cdv A outer s H vs Q E hr h => ?_)
  · obtain ⟨v, _, _, _, _, rfl, _⟩ := h; rfl
  · obtain ⟨v, B0, o, i, rows, rfl, eB, hd, hl, hrl, hT, hQ, hE⟩ := h
    obtain ⟨a, us, rfl, hw0, hdp⟩ := dp_sq2 hd
    have hw : seqW K o a us B0 := hw0
    have hul : us.length = rows.length := by rw [dpAll_len _ _ hdp, List.length_map]
    have rowA : ∀ r x, us[r]? = some x → r < rows.length ∧ ∃ b ns, x = .ref b ∧ ns = rows.getD r [] ∧ Dp K B0 (.ref b) (rowD i ns) ∧ seqW K i b (ns.map V.int) B0 ∧ ns.length < 64 := fun r x hx => by
      have hr2 : r < rows.length := by have := (List.getElem?_eq_some_iff.mp hx).1; omega
      obtain ⟨d, h1, h2⟩ := dpAll_get _ _ _ _ hdp hx
      rw [rows_get hr2] at h1
      cases h1
      obtain ⟨b, ws, rfl, h3, h4⟩ := dp_sq2 h2
      rw [dpAll_intE h4] at h3
      have hm : rows.getD r [] ∈ rows := by rw [List.getD_eq_getElem?_getD, List.getElem?_eq_getElem hr2]; exact List.getElem_mem _
      exact ⟨hr2, b, _, rfl, rfl, h2, h3, hrl _ hm⟩
    have arr : ∀ {σ : L2.St} {Hx : Hp} {t1 t2 : TE} {b : Addr} {ns : List Int} {E : XK}, Ex H Hx → Ev t1 σ Hx (.ref b) → Ev t2 σ Hx (.int (rows.length : Int)) → (SqL K Hx b (ns.map V.int) ∨ SqT K Hx b (ns.map V.int)) → ns.length < 64 → Ev (tCall (spArr K tp) [] E (tCons t1 (tCons t2 tNil))) σ Hx (.bl (ns.isPerm (iota rows.length))) := fun {σ Hx t1 t2 b ns E} ex h1 h2 hx hnl =>
      ev_call (vs := [.ref b, .int (rows.length : Int)]) (ea_cons h1 (ea_cons h2 ea_nil)) fun H4 e4 Q q E => ⟨b, ns, rows.length, rfl, hx.imp (ex_l e4) (ex_t e4), hnl, by omega, (ex.trans e4) tp _ hT, q⟩
    have arrL : ∀ {σ : L2.St} {Hx : Hp} {t1 t2 : TE} {ns : List Int} {E : XK}, Ex H Hx → EvL t1 σ Hx (ns.map V.int) → (∀ H1, Ex Hx H1 → Ev t2 σ H1 (.int (rows.length : Int))) → ns.length < 64 → Ev (tCall (spArr K tp) [] E (tCons t1 (tCons t2 tNil))) σ Hx (.bl (ns.isPerm (iota rows.length))) := fun {σ Hx t1 t2 ns E} ex h1 h2 hnl =>
      ev_callL1 (y := .int (rows.length : Int)) h1 h2 fun b H4 e4 hb Q q E => ⟨b, ns, rows.length, rfl, .inl (sq_of hb), hnl, by omega, (ex.trans e4) tp _ hT, q⟩
    refine ⟨_, (pss_cons (ps_if (pw_or (pt_not (pt_val (pe_callB (call_isiTK (K := K) rfl) (by rfl) B.isinstance boot_isinstance (pa_cons (pv 0) (pa_cons (pe_tup (pa_cons (pe_bltn (v := V.ty "list") (by rfl) B.list boot_list rfl) (pa_cons (pe_bltn (v := V.ty "tuple") (by rfl) B.tuple boot_tuple rfl) pa_nil))) pa_nil))))) (pw_or1 (pt_not (pt_chain op_le op_le pe_int (pe_callB (call_lenK (K := K) rfl) (by rfl) B.len PySem.boot_len (pa_cons (pv 0) pa_nil)) (pe_gi (by rfl) CS.GREATEST_LISTED))))).pt (pss_one (ps_raiseC rfl (takes_of rfl rfl rfl rfl) E_InvalidSquare (by rfl))) pss_nil)
      (pss_cons (ps_set (i := 1) sc_square_rows.nd rfl (Or.inl rfl) (pe_callB (call_lenK (K := K) rfl) (by rfl) B.len PySem.boot_len (pa_cons (pv 0) pa_nil)))
      (pss_cons (ps_for (passes_of rfl) rfl (pi_aK (K := K) rfl (pv 0)) (pg_name (i := 2) sc_square_rows.nd rfl (Or.inl rfl)) (pss_one (ps_if (pw_or (pt_not (pt_val (pe_callB (call_isiTK (K := K) rfl) (by rfl) B.isinstance boot_isinstance (pa_cons (pv 2) (pa_cons (pe_tup (pa_cons (pe_bltn (v := V.ty "list") (by rfl) B.list boot_list rfl) (pa_cons (pe_bltn (v := V.ty "tuple") (by rfl) B.tuple boot_tuple rfl) pa_nil))) pa_nil))))) (pw_or1 (pt_not (pt_val (pe_cd c_is_arrangement hr (by first | decide | omega) (by rfl) (pa_cons (pv 2) (pa_cons (pv 1) pa_nil))))))).pt (pss_one (ps_raiseC rfl (takes_of rfl rfl rfl rfl) E_InvalidSquare (by rfl))) pss_nil)))
      (pss_cons (ps_for (passes_of rfl) rfl (pi_range1 (by rfl) B.range (pa_cons (pv 1) pa_nil)) (pg_name (i := 3) sc_square_rows.nd rfl (Or.inr rfl)) (pss_one (ps_if (pt_not (pt_val (pe_cd c_is_arrangement hr (by first | decide | omega) (by rfl) (pa_cons (pe_lc (own := [("row", 2)]) rfl sc_square_rows.nd (pi_aK (K := K) rfl (pv 0)) (blkOk_by (own := [("row", 2)]) (N := ["rows", "size", "row", "column"]) (sc := defScope s_square_rows) (by decide +kernel)) (fun _ _ _ _ _ => (pg_name (i := 2) sc_square_rows.nd rfl (Or.inl rfl))) (fun _ _ _ _ _ => pts_nil) (fun _ _ _ _ _ => (pe_2 (pe_ix (ix_listK (K := K) rfl) (pv 2) (pv 3) (fun _ _ => rfl)) (pe_ix (ix_tupK (K := K) rfl) (pv 2) (pv 3) (fun _ _ => rfl))))) (pa_cons (pv 1) pa_nil))))) (pss_one (ps_raiseC rfl (takes_of rfl rfl rfl rfl) E_InvalidSquare (by rfl))) pss_nil)))
      (pss_one (ps_ret (pe_callTy (call_tupleK (K := K) rfl) (by rfl) B.tuple boot_tuple (pa_cons (pe_lc (own := [("row", 2)]) rfl sc_square_rows.nd (pi_aK (K := K) rfl (pv 0)) (blkOk_by (own := [("row", 2)]) (N := ["rows", "size", "row", "column"]) (sc := defScope s_square_rows) (by decide +kernel)) (fun _ _ _ _ _ => (pg_name (i := 2) sc_square_rows.nd rfl (Or.inl rfl))) (fun _ _ _ _ _ => pts_nil) (fun _ _ _ _ _ => (pe_callTy (call_tupleK (K := K) rfl) (by rfl) B.tuple boot_tuple (pa_cons (pv 2) pa_nil)))) pa_nil)))))))), ?_⟩
    refine q_when (et_or (et_not (et_B (ev_isiSeq (ev_var rfl) ((seqW_or hw).imp (ex_l eB) (ex_t eB))))) fun _ => et_not (et_test (ev_chain (b := decide ((1 : Int) ≤ (us.length : Int))) (c := decide ((us.length : Int) ≤ 12)) ev_c (ev_lenL (ev_var rfl) ((seqW_or hw).imp (ex_l eB) (ex_t eB))) rv_I0 (fun _ => ev_c) (fun _ => rv_I0)))) (fun hb H1 e1 => ?_) (fun hb H1 e1 => ?_)
    · refine hE ?_ _ e1
      unfold okSq
      rw [← hul]
      by_cases h1 : 1 ≤ us.length
      · by_cases h2 : us.length ≤ 12
        · rw [decide_eq_true (show (1 : Int) ≤ (us.length : Int) by omega), decide_eq_true (show (us.length : Int) ≤ 12 by omega)] at hb; cases hb
        · rw [decide_eq_false h2, Bool.and_false, Bool.false_and]
      · rw [decide_eq_false h1, Bool.false_and, Bool.false_and]
    have hn : 1 ≤ rows.length ∧ rows.length ≤ 12 := by
      rw [← hul]
      by_cases h1 : 1 ≤ us.length
      · by_cases h2 : us.length ≤ 12
        · exact ⟨h1, h2⟩
        · rw [decide_eq_false (show ¬ (us.length : Int) ≤ 12 by omega), Bool.and_false] at hb; cases hb
      · rw [decide_eq_false (show ¬ (1 : Int) ≤ (us.length : Int) by omega), Bool.false_and] at hb; cases hb
    have ok_rows : okSq rows = latB rows.length rows := by unfold okSq; rw [decide_eq_true hn.1, decide_eq_true hn.2]; rfl
    refine q_asg (ev_lenL (ev_var rfl) ((seqW_or hw).imp (ex_l (eB.trans e1)) (ex_t (eB.trans e1)))) fun H2 e2 => ?_
    have eB2 := (eB.trans e1).trans e2
    rw [hul]
    obtain ⟨J, G, Y, gJ, wJ, gG, gY⟩ := gets_a (σ := [some (.ref a), some (.int (rows.length : Int)), none, none]) (te := tVar 0) (ev_var rfl) (seqW_mono eB2 hw)
    refine q_forW (gJ H2 (Ex.refl _)) wJ (fun k σ' H' => ∃ y, σ' = [some (.ref a), some (.int (rows.length : Int)), y, none] ∧ Ex H2 H' ∧ ∀ r, r < k → (rows.getD r []).isPerm (iota rows.length) = true) ?_ ?_ ?_ ?_
    · intro H3 e3; exact ⟨none, rfl, e3, fun r z => absurd z (by omega)⟩
    · rintro k σ' H' _ ⟨y, rfl, e, _⟩; exact gG H' e
    · rintro k x σ' H' H3 hk ⟨y, rfl, e, hp⟩ hy
      obtain ⟨rfl, hx⟩ := gY _ _ _ _ hy
      obtain ⟨hk2, b, ns, rfl, rfl, hdb, hwb, hnl⟩ := rowA k x hx
      have hwb3 := seqW_mono (eB2.trans e) hwb
      refine gN ?_
      refine s_when (et_or (et_not (et_B (ev_isiSeq (ev_var rfl) (seqW_or hwb3)))) fun _ => et_not (et_B (b := (rows.getD k []).isPerm (iota rows.length)) ?_)) (fun hb2 H4 e4 => ?_) (fun hb2 H4 e4 => ?_)
      · exact arr (ns := rows.getD k []) ((e1.trans e2).trans e) (ev_var rfl) (ev_var rfl) (seqW_or hwb3) hnl
      · refine hE ?_ _ (((e1.trans e2).trans e).trans e4)
        rw [ok_rows]
        have h1 : (rows.getD k []).isPerm (iota rows.length) = false := by simpa using hb2
        cases h2 : latB rows.length rows with
        | false => rfl
        | true =>
          have L := lat_of h2
          rw [List.isPerm_iff.mpr (L.row k hk2)] at h1
          cases h1
      · refine ⟨_, rfl, e.trans e4, fun r hr3 => ?_⟩
        rcases Nat.lt_or_ge r k with h1 | h1
        · exact hp r h1
        · have : r = k := by omega
          rw [this]; simpa using hb2
    · rintro σ' H3 ⟨y, rfl, e3, hp⟩
      rw [hul] at hp
      have rlen : ∀ r, r < rows.length → (rows.getD r []).length = rows.length := fun r h => (List.isPerm_iff.mp (hp r h)).length_eq.trans (iota_len _)
      refine q_forW (gets_r1 (n := (rows.length : Int)) (ev_var rfl) (by omega)) walk_range (fun k σ' H' => ∃ y y2, σ' = [some (.ref a), some (.int (rows.length : Int)), y, y2] ∧ Ex H2 H' ∧ ∀ c, c < k → (col rows c).isPerm (iota rows.length) = true) ?_ ?_ ?_ ?_
      · intro H4 e4; exact ⟨_, _, rfl, e3.trans e4, fun r z => absurd z (by omega)⟩
      · intros; trivial
      · rintro k x σ' H' H4 hk ⟨y, y2, rfl, e, hc⟩ ⟨rfl, rfl⟩
        have hk2 : k < rows.length := by have : k < ((rows.length : Int)).toNat := hk; omega
        have hz : (0 : Int) + (k : Int) = (k : Int) := Int.zero_add _
        show gName 3 (.int (0 + (k : Int))) _ _ _
        rw [hz]
        have eBk := eB2.trans e
        obtain ⟨J2, G2, Y2, gJ2, wJ2, gG2, gY2⟩ := gets_a (σ := [some (.ref a), some (.int (rows.length : Int)), y, some (.int (k : Int))]) (te := tVar 0) (ev_var rfl) (seqW_mono eBk hw)
        refine gN ?_
        refine s_when (et_not (et_B (arrL (ns := col rows k) ((e1.trans e2).trans e) (el_is (el_lcG (fun r => .int (cel rows r k)) gJ2 wJ2 gG2 (by omega) (fun i H1 x H2 y => (gY2 i H1 x H2 y).1) (fun x => rfl) (fun r x H1 hr1 ex1 hy1 => ?_)) (by unfold col; rw [hul, List.map_map]; rfl)) (fun H1 e1 => ev_var rfl) (by unfold col; rw [List.length_map, List.length_range]; omega)))) (fun hb2 H4 e4 => ?_) (fun hb2 H4 e4 => ?_)
        · obtain ⟨_, hx⟩ := gY2 _ _ _ _ hy1
          obtain ⟨hr2, b, ns, rfl, rfl, hdb, hwb, hnl⟩ := rowA r x hx
          have hwb1 := seqW_mono (eBk.trans ex1) hwb
          have hg : ((rows.getD r []).map V.int)[k]? = some (.int (cel rows r k)) := by
            rw [List.getElem?_map, List.getElem?_eq_getElem (by rw [rlen r hr2]; exact hk2)]
            unfold cel
            rw [List.getD_eq_getElem?_getD (l := rows.getD r []), List.getElem?_eq_getElem (by rw [rlen r hr2]; exact hk2)]; rfl
          cases i with
          | true => exact ev_e2 (ev_op (ev_var rfl) (ev_var rfl) (rv_ixTn hwb1 hg))
          | false => exact ev_e1 (ev_op (ev_var rfl) (ev_var rfl) (rv_ixLn hwb1 hg))
        · refine hE ?_ _ (((e1.trans e2).trans e).trans e4)
          rw [ok_rows]
          have h1 : (col rows k).isPerm (iota rows.length) = false := by simpa using hb2
          cases h2 : latB rows.length rows with
          | false => rfl
          | true =>
            have L := lat_of h2
            rw [List.isPerm_iff.mpr (L.col k hk2)] at h1
            cases h1
        · refine ⟨_, _, rfl, e.trans e4, fun c hc3 => ?_⟩
          rcases Nat.lt_or_ge c k with h1 | h1
          · exact hc c h1
          · have : c = k := by omega
            rw [this]; simpa using hb2
      · rintro σ' H4 ⟨y, y2, rfl, e4, hc⟩
        have hc2 : ∀ c, c < rows.length → (col rows c).isPerm (iota rows.length) = true := fun c h => hc c (by show c < ((rows.length : Int)).toNat; omega)
        have hok : okSq rows = true := by
          rw [ok_rows]
          unfold latB
          simp only [Bool.and_eq_true, decide_eq_true_eq, List.all_eq_true, List.mem_range]
          exact ⟨⟨trivial, hp⟩, hc2⟩
        have eH4 := (e1.trans e2).trans e4
        obtain ⟨J3, G3, Y3, gJ3, wJ3, gG3, gY3⟩ := gets_a (σ := [some (.ref a), some (.int (rows.length : Int)), y, y2]) (te := tVar 0) (ev_var rfl) hw
        refine s_retB (B := B0) (evd_is (evd_tuple (t := false) (evd_lc (fun _ => true) (fun r => rowD true (rows.getD r [])) gJ3 wJ3 gG3 (by omega) (fun i H1 x H2 y => (gY3 i H1 x H2 y).1) (fun x => rfl) (fun r x H1 hr1 ex1 hy1 => ⟨et_yes, fun _ => ?_⟩))) ?_) (eB2.trans e4) (fun v H5 e5 hv => hQ hok v H5 (eH4.trans e5) (dp_mono (nw_back eB eH4) _ _ hv))
        · obtain ⟨_, hx⟩ := gY3 _ _ _ _ hy1
          obtain ⟨hr2, b, ns, rfl, rfl, hdb, hwb, hnl⟩ := rowA r x hx
          exact evd_tuple (t := i) (evd_of (ev_var rfl) hdb)
        · show PyData.tuple _ = PyData.tuple _
          congr 1
          rw [List.filter_eq_self.mpr (fun _ _ => rfl), hul]
          apply List.ext_getElem?
          intro r
          rw [List.getElem?_map]
          by_cases hr1 : r < rows.length
          · rw [List.getElem?_range hr1, rows_get hr1]; rfl
          · rw [List.getElem?_eq_none (by simpa using hr1), List.getElem?_eq_none (by simpa using hr1)]; rfl
theorem ok_kept_rows {Ci tp : Addr} (D : Df K mg "kept_rows" s_kept_rows ["rows"]) (c_square_rows : Ce P w K mg base 2 "square_rows" (spSqr K tp Ci)) : Ce P w K mg base 3 "kept_rows" (spSqr K tp Ci) := by
  refine D.okX sc_kept_rows (fun vs H Q E h => ?_) (fun f cdv A outer s H vs Q E hr h => ?_)
  · obtain ⟨v, _, _, _, _, rfl, _⟩ := h; rfl
  · obtain ⟨v, B0, o, i, rows, rfl, eB, hd, hl, hrl, hT, hQ, hE⟩ := h
    refine ⟨_, (pss_one (ps_ret (pe_ce c_square_rows hr (by first | decide | omega) (by rfl) (takes_of rfl rfl rfl rfl) (pa_cons (pv 0) pa_nil)))), ?_⟩
    refine s_retA (ea_cons (ev_var rfl) ea_nil) fun H1 e1 => ?_
    exact ⟨v, B0, o, i, rows, rfl, eB.trans e1, hd, hl, hrl, e1 tp _ hT, fun h v2 H2 e2 hv => hQ h v2 H2 (e1.trans e2) (dp_mono (nw_back eB e1) _ _ hv), fun h H2 e2 => hE h H2 (e1.trans e2)⟩

end
end My
namespace My
open PySem PySem.Spec PyProof.Rows L2 Evl Mi Mm
abbrev s_is_transversal_of : Stmt := top 11
theorem sc_is_transversal_of : FnScope ["kept", "columns", "size", "row", "column"] ["kept", "columns"] (defScope s_is_transversal_of) := ⟨rfl, rfl, rfl, by decide +kernel, rfl, by decide +kernel, by decide +kernel⟩
abbrev s_first_repeat : Stmt := top 13
theorem sc_first_repeat : FnScope ["one", "other", "cells", "r", "c", "pair"] ["one", "other"] (defScope s_first_repeat) := ⟨rfl, rfl, rfl, by decide +kernel, rfl, by decide +kernel, by decide +kernel⟩
abbrev s_are_mates : Stmt := top 14
theorem sc_are_mates : FnScope ["one", "other"] ["one", "other"] (defScope s_are_mates) := ⟨rfl, rfl, rfl, by decide +kernel, rfl, by decide +kernel, by decide +kernel⟩
section
variable {P : Program} {w : World} {K : PySem.W.Frag} {mg : Str → Option Value} {base : Heap}
def spRep (K : PySem.W.Frag) (tp : Addr) : Sp := fun vs H Q _ => ∃ (v1 v2 : V) (n : Nat) (one other : List (List Int)) (o1 i1 o2 i2 : Bool) (m : Option (Nat × Nat)), vs = [v1, v2] ∧ Two K H v1 v2 n one other o1 i1 o2 i2 ∧ H tp = some (tabO tp) ∧ Rep n one other m ∧ RetP K (repD n m) H Q
theorem kept_of {K : PySem.W.Frag} {σ : L2.St} {H : Hp} {tp Ci : Addr} {E : L2.St → XK} {i n : Nat} {v : V} {o t : Bool} {rows : List (List Int)} (hv : σ[i]? = some (some v)) (hd : Dp K H v (sqrD o t rows)) (L : Lat n rows) (h1 : 1 ≤ n) (h2 : n ≤ 12) (hT : H tp = some (tabO tp)) : EvD K (tCallS (spSqr K tp Ci) E (tCons (tVar i) tNil)) σ H (sqrD true true rows) := by
  refine evd_ceD (evda_cons (evd_of (ev_var hv) hd) evda_nil) fun vs H1 B eB e2 hvs Q q => ?_
  cases hvs with
  | cons a b =>
    cases b
    have hok := okSq_lat L h1 h2
    refine ⟨_, B, o, t, rows, rfl, e2, a, by have := L.len; omega, fun r hr => ?_, (eB.trans e2) tp _ hT, fun _ => q, fun z => by rw [hok] at z; cases z⟩
    obtain ⟨j, hj, rfl⟩ := List.mem_iff_getElem.mp hr
    have hl := L.len
    have := L.rlen (r := j) (by omega)
    rw [List.getD_eq_getElem?_getD, List.getElem?_eq_getElem hj] at this
    have h3 : (rows[j]).length = n := this
    omega
theorem ok_first_repeat {Ci tp : Addr} (D : Df K mg "first_repeat" s_first_repeat ["one", "other"]) (B : Bt mg) (c_kept_rows : Ce P w K mg base 3 "kept_rows" (spSqr K tp Ci)) : Cd P w K mg base 4 "first_repeat" (spRep K tp) := by
  refine D.ok sc_first_repeat (fun vs H Q E h => ?_) (fun f cdv A outer s H vs Q E hr h => ?_)
  · obtain ⟨v1, v2, _, _, _, _, _, _, _, _, rfl, _⟩ := h; rfl
  · obtain ⟨v1, v2, n, one, other, o1, i1, o2, i2, m, rfl, T, hT, hR, q⟩ := h
    refine ⟨_, (pss_cons (ps_set (i := 0) sc_first_repeat.nd rfl (Or.inl rfl) (pe_ce0 c_kept_rows hr (by first | decide | omega) (by rfl) (pa_cons (pv 0) pa_nil)))
      (pss_cons (ps_set (i := 1) sc_first_repeat.nd rfl (Or.inl rfl) (pe_ce0 c_kept_rows hr (by first | decide | omega) (by rfl) (pa_cons (pv 1) pa_nil)))
      (pss_cons (ps_if (pt_cmpR op_ne (pe_callB (call_lenK (K := K) rfl) (by rfl) B.len PySem.boot_len (pa_cons (pv 0) pa_nil)) (pe_callB (call_lenK (K := K) rfl) (by rfl) B.len PySem.boot_len (pa_cons (pv 1) pa_nil)) (nomark _)) (pss_one ps_never) pss_nil)
      (pss_cons (ps_set (i := 2) sc_first_repeat.nd rfl (Or.inl rfl) pe_dnewT)
      (pss_cons (ps_for PassesOwn.never rfl (pi_range1 (by rfl) B.range (pa_cons (pe_callB (call_lenK (K := K) rfl) (by rfl) B.len PySem.boot_len (pa_cons (pv 0) pa_nil)) pa_nil)) (pg_name (i := 3) sc_first_repeat.nd rfl (Or.inl rfl)) (pss_one (ps_for PassesOwn.never rfl (pi_range1 (by rfl) B.range (pa_cons (pe_callB (call_lenK (K := K) rfl) (by rfl) B.len PySem.boot_len (pa_cons (pv 0) pa_nil)) pa_nil)) (pg_name (i := 4) sc_first_repeat.nd rfl (Or.inl rfl)) (pss_cons (ps_set (i := 5) sc_first_repeat.nd rfl (Or.inl rfl) (pe_tup (pa_cons (pe_ix (ix_tupK (K := K) rfl) (pe_ix (ix_tupK (K := K) rfl) (pv 0) (pv 3) (fun _ _ => rfl)) (pv 4) (fun _ _ => rfl)) (pa_cons (pe_ix (ix_tupK (K := K) rfl) (pe_ix (ix_tupK (K := K) rfl) (pv 1) (pv 3) (fun _ _ => rfl)) (pv 4) (fun _ _ => rfl)) pa_nil))))
            (pss_cons (ps_if (pt_cmpR (op_inDc (hu64 hr)) (pv 5) (pv 2) (by rfl)) (pss_one (ps_ret (pe_tup (StX.pa_star (pe_dget (hu1 hr) (pv 2) (pv 5) (fun _ _ => rfl)) (pa_cons (pv 3) (pa_cons (pv 4) pa_nil)))))) pss_nil)
            (pss_one (ps_asg (pe_tup (pa_cons (pv 3) (pa_cons (pv 4) pa_nil))) (pg_sub (pv 2) (pv 5) (set_dict (hu1 hr))))))))))
      (pss_one (ps_ret pe_non))))))), ?_⟩
    refine q_asgD (kept_of rfl T.d1 T.l1 T.h1 T.h2 hT) fun w1 H1 e1 d1 => ?_
    refine q_asgD (kept_of rfl (dp_mono e1 _ _ T.d2) T.l2 T.h1 T.h2 (e1 tp _ hT)) fun w2 H2 e2 d2 => ?_
    have d1' := dp_mono e2 _ _ d1
    have n1 : (one.map (rowD true)).length = n := by rw [List.length_map, T.l1.len]
    have n2 : (other.map (rowD true)).length = n := by rw [List.length_map, T.l2.len]
    refine q_when (b := false) (et_is (et_test (ev_op (ev_lenD (t := true) (evd_of (ev_var rfl) d1')) (ev_lenD (t := true) (evd_of (ev_var rfl) d2)) (rv_ne rfl))) (by rw [n1, n2, decide_eq_true rfl]; rfl)) (fun z => by cases z) (fun _ H3 e3 => ?_)
    refine evl_dnew fun dk H4 nd e4 hd4 => ?_
    have e03 := (e1.trans e2).trans e3
    have w1d := dp_mono e3 _ _ d1'
    have w2d := dp_mono e3 _ _ d2
    have hn2 := T.h2
    refine q_forW (gets_r1 (n := (n : Int)) (ev_is (ev_lenD (t := true) (evd_of (ev_var rfl) (dp_mono e4 _ _ w1d))) (by rw [n1])) (by omega)) walk_range (fun r σ' H' => ∃ y3 y4 y5 kvs, σ' = [some w1, some w2, some (.ref dk), y3, y4, y5] ∧ DI n one other (r * n) dk H3 H' kvs) ?_ ?_ ?_ ?_
    · intro H5 e5; exact ⟨_, _, _, _, rfl, by rw [Nat.zero_mul]; exact di_zero nd (e4.trans e5) (e5 dk _ hd4)⟩
    · intros; trivial
    · rintro r x σ' H' H5 hr1 ⟨y3, y4, y5, kvs, rfl, I⟩ ⟨rfl, rfl⟩
      have hr2 : r < n := by have : r < ((n : Int)).toNat := hr1; omega
      have hz : (0 : Int) + (r : Int) = (r : Int) := Int.zero_add _
      show gName 3 (.int (0 + (r : Int))) _ _ _
      rw [hz]
      refine gN ?_
      refine s_forW (gets_r1 (n := (n : Int)) (ev_is (ev_lenD (t := true) (evd_of (ev_var rfl) (dp_mono I.ex _ _ w1d))) (by rw [n1])) (by omega)) walk_range (fun c σ' H' => ∃ y4 y5 kvs, σ' = [some w1, some w2, some (.ref dk), some (.int (r : Int)), y4, y5] ∧ DI n one other (r * n + c) dk H3 H' kvs) ?_ ?_ ?_ ?_
      · intro H6 e6; exact ⟨_, _, _, rfl, di_up I e6⟩
      · intros; trivial
      · rintro c x σ' H' H6 hc1 ⟨y4, y5, kvs, rfl, I⟩ ⟨rfl, rfl⟩
        have hc2 : c < n := by have : c < ((n : Int)).toNat := hc1; omega
        have hz : (0 : Int) + (c : Int) = (c : Int) := Int.zero_add _
        show gName 4 (.int (0 + (c : Int))) _ _ _
        rw [hz]
        refine gN ?_
        refine rep_turn (n := n) (r := r) (c := c) (t := r * n + c) (v1 := w1) (v2 := w2) (H2 := H3) (dk := dk) T.l1 T.l2 T.h2 hr2 hc2 rfl w1d w2d rfl rfl rfl rfl (fun _ => rfl) (fun _ => rfl) (fun _ => rfl) (fun _ => rfl) I ?_ ?_ ?_
        · intro p q s H7 e7 hp hv hq
          exact eu_star2 (ev_getDc (ev_var rfl) (e7 dk _ I.is) (ev_var rfl) hp hv) hq (ev_var rfl) (ev_var rfl)
        · intro st hst p H7 np e7 hp
          have := rep_uniq hR hst
          subst this
          exact q (.ref p) H7 (e03.trans e7) (.tup (st_of hp) (dpAll_ints _))
        · intro p H7 kvs I7
          exact ⟨_, _, _, rfl, I7⟩
      · rintro σ' H6 ⟨y4, y5, kvs, rfl, I6⟩
        have : r * n + ((n : Int)).toNat = (r + 1) * n := by rw [Int.toNat_natCast, Nat.succ_mul]
        exact ⟨_, _, _, _, rfl, this ▸ I6⟩
    · rintro σ' H5 ⟨y3, y4, y5, kvs, rfl, I5⟩
      have hnr := I5.nor
      rw [Int.toNat_natCast] at hnr
      have := rep_uniq hR (b := none) hnr
      subst this
      exact s_ret ev_c fun H6 e6 => retP_none q (e03.trans (I5.ex.trans e6))
def spMat (K : PySem.W.Frag) (tp : Addr) : Sp := fun vs H Q _ => ∃ (v1 v2 : V) (n : Nat) (one other : List (List Int)) (o1 i1 o2 i2 : Bool) (m : Option (Nat × Nat)), vs = [v1, v2] ∧ Two K H v1 v2 n one other o1 i1 o2 i2 ∧ H tp = some (tabO tp) ∧ Rep n one other m ∧ RetV (.bl m.isNone) H Q
theorem ok_are_mates {tp : Addr} (D : Df K mg "are_mates" s_are_mates ["one", "other"]) (c_first_repeat : Cd P w K mg base 4 "first_repeat" (spRep K tp)) : Cd P w K mg base 5 "are_mates" (spMat K tp) := by
  refine D.ok sc_are_mates (fun vs H Q E h => ?_) (fun f cdv A outer s H vs Q E hr h => ?_)
  · obtain ⟨v1, v2, _, _, _, _, _, _, _, _, rfl, _⟩ := h; rfl
  · obtain ⟨v1, v2, n, one, other, o1, i1, o2, i2, m, rfl, T, hT, hR, q⟩ := h
    refine ⟨_, (pss_one (ps_ret (pe_cmpR op_isN (pe_cd c_first_repeat hr (by first | decide | omega) (by rfl) (pa_cons (pv 0) (pa_cons (pv 1) pa_nil))) pe_non (nomark _)))), ?_⟩
    refine s_ret (ev_isN (K := K) (evq_call (ea_cons (ev_var rfl) (ea_cons (ev_var rfl) ea_nil)) fun H1 e1 Q q E => ?_) (repD_none n m)) fun H2 e2 => q H2 e2
    exact ⟨v1, v2, n, one, other, o1, i1, o2, i2, m, rfl, ⟨dp_mono e1 _ _ T.d1, dp_mono e1 _ _ T.d2, T.l1, T.l2, T.h1, T.h2⟩, e1 tp _ hT, hR, q⟩

def spTrO (K : PySem.W.Frag) (tp : Addr) : Sp := fun vs H Q _ => ∃ (v u : V) (n : Nat) (rows : List (List Int)) (t : Bool) (cs : List Int), vs = [v, u] ∧ Dp K H v (sqrD true true rows) ∧ Dp K H u (rowD t cs) ∧ Lat n rows ∧ 1 ≤ n ∧ n ≤ 12 ∧ cs.length < 64 ∧ H tp = some (tabO tp) ∧ RetV (.bl (trB n rows cs)) H Q
theorem ok_is_transversal_of {tp : Addr} (D : Df K mg "is_transversal_of" s_is_transversal_of ["kept", "columns"]) (B : Bt mg) (c_is_arrangement : Cd P w K mg base 1 "is_arrangement" (spArr K tp)) : Cd P w K mg base 2 "is_transversal_of" (spTrO K tp) := by
  refine D.ok sc_is_transversal_of (fun vs H Q E h => ?_) (fun f cdv A outer s H vs Q E hr h => ?_)
  · obtain ⟨v, u, _, _, _, _, rfl, _⟩ := h; rfl
  · obtain ⟨v, u, n, rows, t, cs, rfl, hd, hu, L, h0, h12, hcl, hT, q⟩ := h
    refine ⟨_, (pss_cons (ps_set (i := 2) sc_is_transversal_of.nd rfl (Or.inl rfl) (pe_callB (call_lenK (K := K) rfl) (by rfl) B.len PySem.boot_len (pa_cons (pv 0) pa_nil)))
      (pss_cons (ps_if (pw_or (pt_not (pt_val (pe_callB (call_isiTK (K := K) rfl) (by rfl) B.isinstance boot_isinstance (pa_cons (pv 1) (pa_cons (pe_tup (pa_cons (pe_bltn (v := V.ty "list") (by rfl) B.list boot_list rfl) (pa_cons (pe_bltn (v := V.ty "tuple") (by rfl) B.tuple boot_tuple rfl) pa_nil))) pa_nil))))) (pw_or1 (pt_not (pt_val (pe_cd c_is_arrangement hr (by first | decide | omega) (by rfl) (pa_cons (pv 1) (pa_cons (pv 2) pa_nil))))))).pt (pss_one (ps_ret pe_bl)) pss_nil)
      (pss_one (ps_ret (pe_cd c_is_arrangement hr (by first | decide | omega) (by rfl) (pa_cons (pe_lc (own := [("row", 3), ("column", 4)]) rfl sc_is_transversal_of.nd (pi_zipB (K := K) rfl (by rfl) B.zip (pa_cons (pv 0) (pa_cons (pv 1) pa_nil))) (blkOk_by (own := [("row", 3), ("column", 4)]) (N := ["kept", "columns", "size", "row", "column"]) (sc := defScope s_is_transversal_of) (by decide +kernel)) (fun _ _ _ _ _ => (pg_tupK (K := K) (n := 2) rfl rfl (pgs_cons (pg_name (i := 3) sc_is_transversal_of.nd rfl (Or.inl rfl)) (pgs_cons (pg_name (i := 4) sc_is_transversal_of.nd rfl (Or.inl rfl)) pgs_nil)))) (fun _ _ _ _ _ => pts_nil) (fun _ _ _ _ _ => (pe_ix (ix_tupK (K := K) rfl) (pv 3) (pv 4) (fun _ _ => rfl)))) (pa_cons (pv 2) pa_nil))))))), ?_⟩
    obtain ⟨a, rfl⟩ := dp_refS (t := true) hd
    obtain ⟨b, rfl, hb⟩ := dp_rowS hu
    have hl := L.len
    refine q_asg (v := .int (n : Int)) (ev_is (ev_lenD (t := true) (evd_of (ev_var rfl) hd)) (by rw [List.length_map, hl])) fun H1 e1 => ?_
    have arr : ∀ {σ : L2.St} {Hx : Hp} {t1 t2 : TE} {b : Addr} {ns : List Int} {E : XK}, Ex H Hx → Ev t1 σ Hx (.ref b) → Ev t2 σ Hx (.int (n : Int)) → (SqL K Hx b (ns.map V.int) ∨ SqT K Hx b (ns.map V.int)) → ns.length < 64 → Ev (tCall (spArr K tp) [] E (tCons t1 (tCons t2 tNil))) σ Hx (.bl (ns.isPerm (iota n))) := fun {σ Hx t1 t2 b ns E} ex h1 h2 hx hnl =>
      ev_call (vs := [.ref b, .int (n : Int)]) (ea_cons h1 (ea_cons h2 ea_nil)) fun H4 e4 Q q E => ⟨b, ns, n, rfl, hx.imp (ex_l e4) (ex_t e4), hnl, by omega, (ex.trans e4) tp _ hT, q⟩
    have arrL : ∀ {σ : L2.St} {Hx : Hp} {t1 t2 : TE} {ns : List Int} {E : XK}, Ex H Hx → EvL t1 σ Hx (ns.map V.int) → (∀ H1, Ex Hx H1 → Ev t2 σ H1 (.int (n : Int))) → ns.length < 64 → Ev (tCall (spArr K tp) [] E (tCons t1 (tCons t2 tNil))) σ Hx (.bl (ns.isPerm (iota n))) := fun {σ Hx t1 t2 ns E} ex h1 h2 hnl =>
      ev_callL1 (y := .int (n : Int)) h1 h2 fun b H4 e4 hb Q q E => ⟨b, ns, n, rfl, .inl (sq_of hb), hnl, by omega, (ex.trans e4) tp _ hT, q⟩
    refine q_when (et_or (et_not (et_B (ev_isiSeq (ev_var rfl) (seqW_or (seqW_mono e1 hb))))) fun _ => et_not (et_B (arr (ns := cs) e1 (ev_var rfl) (ev_var rfl) (seqW_or (seqW_mono e1 hb)) hcl))) (fun hz H2 e2 => ?_) (fun hz H2 e2 => ?_)
    · have hp : cs.isPerm (iota n) = false := by simpa using hz
      have : trB n rows cs = false := by unfold trB; rw [hp, Bool.false_and]
      rw [this] at q
      exact s_ret ev_c fun H3 e3 => q H3 ((e1.trans e2).trans e3)
    · have hp : cs.isPerm (iota n) = true := by simpa using hz
      have hP := List.isPerm_iff.mp hp
      have hcn := hP.length_eq.trans (iota_len n)
      have htr : trB n rows cs = ((List.range n).map fun k => cel rows k (cs.getD k 0).toNat).isPerm (iota n) := by unfold trB; rw [hp, Bool.true_and]
      rw [htr] at q
      have e12 := e1.trans e2
      obtain ⟨us, hus, hds⟩ := dp_tupE hd
      have hul : us.length = n := by rw [dpAll_len _ _ hds, List.length_map, hl]
      obtain ⟨J, G, gJ, wJ, gG⟩ := gets_zipT (K := K) (σ := [some (.ref a), some (.ref b), some (.int (n : Int)), none, none]) (ta := tCons (tVar 0) (tCons (tVar 1) tNil)) (ea_cons (ev_var rfl) (ea_cons (ev_var rfl) ea_nil)) (ex_t e12 hus) (seqW_mono e12 hb)
      have hmin : min us.length (cs.map V.int).length = n := by rw [hul, List.length_map, hcn, Nat.min_self]
      rw [hmin] at wJ
      refine s_ret (arrL (ns := (List.range n).map fun k => cel rows k (cs.getD k 0).toNat) e12 (el_is (el_lcP (fun k => .int (cel rows k (cs.getD k 0).toNat)) gJ wJ gG (by omega) (fun _ _ => rfl) (fun k x y H3 hk e3 hx hy => ?_)) (by rw [List.map_map]; rfl)) (fun H3 e3 => ev_var rfl) (by rw [List.length_map, List.length_range]; omega)) fun H3 e3 => q H3 (e12.trans e3)
      obtain ⟨d, h1, h2⟩ := dpAll_get _ _ _ _ hds hx
      rw [rows_get (i := true) (by omega)] at h1
      cases h1
      have hy2 : y = .int (cs.getD k 0) := by
        rw [List.getElem?_map, List.getElem?_eq_getElem (by omega)] at hy
        rw [List.getD_eq_getElem?_getD, List.getElem?_eq_getElem (by omega)]
        exact (Option.some.inj hy).symm
      subst hy2
      have hin := perm_in hP hk
      have hrl := L.rlen hk
      exact ev_ofI (evd_ixT (ds := pints (rows.getD k [])) (evd_of (ev_var rfl) (dp_mono (e12.trans e3) _ _ h2)) (ev_natI (ev_var rfl) hin.1) (pints_get (by omega)))
def spIsSq (K : PySem.W.Frag) : Sp := fun vs H Q _ => ∃ (a : Addr) (rows : List (List Int)), vs = [.ref a] ∧ Dp K H (.ref a) (sqrD false false rows) ∧ rows.length ≤ 1000 ∧ (∀ r ∈ rows, r.length < 64) ∧ RetV (.bl (okSq rows)) H Q
theorem sl_tupAK {X : Cx} {K : PySem.W.Frag} (h : X.K = K) : SlR X (rSlA K) := h ▸ sl_tupA
theorem op_catAK {X : Cx} {K : PySem.W.Frag} (h : X.K = K) : OpR X (binaryOp .Add) (rCatA K) := h ▸ op_catA
theorem ev_ixNew {K : PySem.W.Frag} {σ : L2.St} {H : Hp} {ta tb : TE} {xs : List V} {j : Nat} {v : V} (h : EvL ta σ H xs) (hb : ∀ H1, Ex H H1 → Ev tb σ H1 (.int (j : Int))) (hx : xs[j]? = some v) : Ev (tOp (rIxL K) ta tb) σ H v := fun H1 e Q q =>
  h H1 e _ fun p H2 np e2 hp => hb H2 (e.trans e2) H2 (Ex.refl _) _ fun H3 e3 => rv_ixLn (sq_of (e3 p _ hp)) hx H3 (Ex.refl _) Q fun H4 e4 => q H4 ((e2.trans e3).trans e4)
theorem getL_mod {n : Nat} {z : Int} (hn : 0 < n) : ∃ k : Nat, z % (n : Int) = (k : Int) ∧ k < n := ⟨(z % (n : Int)).toNat, by have := Int.emod_nonneg z (show (n : Int) ≠ 0 by omega); omega, by have := Int.emod_nonneg z (show (n : Int) ≠ 0 by omega); have := Int.emod_lt_of_pos z (show (0 : Int) < (n : Int) by omega); omega⟩

theorem dpAll_app {K : PySem.W.Frag} {H : Hp} : ∀ {ds es : List PyData} {us vs : List V}, DpAll K H us ds → DpAll K H vs es → DpAll K H (us ++ vs) (ds ++ es)
  | [], es, us, vs, h, h2 => by cases h; exact h2
  | d :: ds, es, us, vs, h, h2 => by
    cases h with
    | cons a b => exact .cons a (dpAll_app b h2)
theorem dpAll_take {K : PySem.W.Frag} {H : Hp} : ∀ {ds : List PyData} {us : List V} (n : Nat), DpAll K H us ds → DpAll K H (us.take n) (ds.take n)
  | [], us, n, h => by cases h; simp; exact .nil
  | d :: ds, us, 0, h => by simp; exact .nil
  | d :: ds, us, n + 1, h => by
    cases h with
    | cons a b => exact .cons a (dpAll_take n b)
theorem dpAll_drop {K : PySem.W.Frag} {H : Hp} : ∀ {ds : List PyData} {us : List V} (n : Nat), DpAll K H us ds → DpAll K H (us.drop n) (ds.drop n)
  | [], us, n, h => by cases h; simp; exact .nil
  | d :: ds, us, 0, h => h
  | d :: ds, us, n + 1, h => by
    cases h with
    | cons a b => exact dpAll_drop n b

section
variable {σ : L2.St} {H : Hp} {ta tb tc te : TE} {D : Ends} {tz : TS}
theorem evd_catA {a b : List Int} (h : EvD K ta σ H (rowD true a)) (h2 : EvD K tb σ H (rowD true b)) (hn : a.length + b.length ≤ 1000) : EvD K (tOp (rCatA K) ta tb) σ H (rowD true (a ++ b)) := fun H1 e Q q => h H1 e _ fun v H2 e2 hv => h2 H2 (e.trans e2) _ fun w H3 e3 hw => by
  obtain ⟨p, rfl, hp⟩ := dp_rowT hv
  obtain ⟨r, rfl, hr⟩ := dp_rowT hw
  refine ⟨p, r, a.map V.int, b.map V.int, rfl, rfl, ex_t ((nw_ex e e2).trans e3) hp, ex_t (nw_ex (e.trans e2) e3) hr, sz_of (by rw [List.length_map, List.length_map]; omega), fun hz => q _ H3 (e2.trans e3) ?_, fun _ hz => q _ H3 (e2.trans e3) ?_, fun _ _ p2 np2 => q (.ref p2) _ ((e2.trans e3).trans (Ex.new np2)) ?_⟩
  · have : a = [] := List.map_eq_nil_iff.mp hz
    subst this
    exact dp_mono (nw_back e e2) _ _ hw
  · have : b = [] := List.map_eq_nil_iff.mp hz
    subst this
    rw [List.append_nil]
    exact dp_mono (nw_on e3) _ _ hv
  · exact .tup (st_of (by rw [nw_new (fresh_back (e2.trans e3) np2), upd_same, ← List.map_append])) (dpAll_ints _)
theorem evd_slA {a c : List Int} {lo hi : Option Int} {tlo thi : TO} (h : EvD K te σ H (rowD true a)) (hl : EvO tlo σ H lo) (hh : EvO thi σ H hi) (hc : cutV (a.map V.int) lo hi = c.map V.int) (hw : (HT.sIx (a.map V.int).length 0 lo = 0 ∧ HT.sIx (a.map V.int).length (a.map V.int).length hi = (a.map V.int).length) → c = a) : EvD K (tSl (rSlA K) te tlo thi) σ H (rowD true c) := fun H1 e Q q =>
  h H1 e _ fun v H2 e2 hv => hl H2 (e.trans e2) _ fun H3 e3 => hh H3 ((e.trans e2).trans e3) _ fun H4 e4 => by
    obtain ⟨p, rfl, hp⟩ := dp_rowT hv
    refine ⟨p, a.map V.int, rfl, ex_t (((nw_ex e e2).trans e3).trans e4) hp, fun hz => q _ H4 ((e2.trans e3).trans e4) ?_, fun _ l nl => q (.ref l) _ (((e2.trans e3).trans e4).trans (Ex.new nl)) ?_⟩
    · rw [hw hz]; exact dp_mono (nw_on (e3.trans e4)) _ _ hv
    · exact .tup (st_of (by rw [nw_new (fresh_back ((e2.trans e3).trans e4) nl), upd_same, hc])) (dpAll_ints _)
theorem el_catLL {xs ys : List V} (h : EvL ta σ H xs) (h2 : EvL tb σ H ys) (hn : xs.length + ys.length ≤ 100000) : EvL (tOp rCat ta tb) σ H (xs ++ ys) := fun H1 e Q q => h H1 e _ fun p H2 np e2 hp => h2 H2 (e.trans e2) _ fun r H3 nr e3 hr =>
  ⟨p, r, xs, ys, rfl, rfl, e3 p _ hp, hr, sz_of hn, fun l hl => q l _ (fresh_back (e2.trans e3) hl) ((e2.trans e3).trans (Ex.new hl)) upd_same⟩
end
theorem cutI_to (a : List Int) (n : Nat) : cutV (a.map V.int) none (some (n : Int)) = (a.take n).map V.int := by rw [cut_to, List.map_take]
theorem cut_fromN (xs : List V) (n : Nat) : cutV xs (some (n : Int)) none = xs.drop n := by
  unfold cutV
  rw [HT.sIx_none, HT.sIx_nat]
  by_cases h : n ≤ xs.length
  · rw [Nat.min_eq_left h, ← List.length_drop, List.take_length]
  · rw [Nat.min_eq_right (by omega), List.drop_eq_nil_of_le (Nat.le_refl _), List.drop_eq_nil_of_le (by omega), List.take_nil]
theorem cutI_from (a : List Int) (n : Nat) : cutV (a.map V.int) (some (n : Int)) none = (a.drop n).map V.int := by rw [cut_fromN, List.map_drop]
theorem wholeTo {a : List Int} {n : Nat} (h : HT.sIx (a.map V.int).length 0 (none : Option Int) = 0 ∧ HT.sIx (a.map V.int).length (a.map V.int).length (some (n : Int)) = (a.map V.int).length) : a.take n = a := by
  have := h.2
  rw [HT.sIx_nat, List.length_map] at this
  exact List.take_of_length_le (by omega)
theorem wholeFrom {a : List Int} {n : Nat} (h : HT.sIx (a.map V.int).length 0 (some (n : Int)) = 0 ∧ HT.sIx (a.map V.int).length (a.map V.int).length (none : Option Int) = (a.map V.int).length) : a.drop n = a := by
  have := h.1
  rw [HT.sIx_nat, List.length_map] at this
  by_cases hn : n = 0
  · rw [hn, List.drop_zero]
  · have : a = [] := List.eq_nil_of_length_eq_zero (by omega)
    rw [this, List.drop_nil]

end
end My
namespace My
open PySem PySem.Spec PyProof.Rows L2 Evl Mi Mm
abbrev s_numbered : Stmt := top 17
theorem sc_numbered : FnScope ["parts", "rows", "number", "columns", "r", "_", "row"] ["parts"] (defScope s_numbered) := ⟨rfl, rfl, rfl, by decide +kernel, rfl, by decide +kernel, by decide +kernel⟩
section
variable {P : Program} {w : World} {K : PySem.W.Frag} {mg : Str → Option Value} {base : Heap}
theorem rowA_map (g : Nat → Int) : ∀ (ps : List Nat) (acc : List Int) (k : Nat), (rowA g acc k ps).map V.int = rowA (fun a => V.int (g a)) (acc.map V.int) k ps
  | [], acc, k => rfl
  | p :: ps, acc, k => by
    show (rowA g (acc.set p (g k)) (k + 1) ps).map V.int = rowA _ ((acc.map V.int).set p (.int (g k))) (k + 1) ps
    rw [rowA_map g ps, List.map_set]
theorem rowN_map (n : Nat) (ps : List Nat) : (rowN (fun a => (a : Int)) 0 n ps).map V.int = rowN (fun a => V.int (a : Int)) (.int 0) n ps := by
  unfold rowN
  rw [rowA_map, List.map_replicate]
/-- the rows with the number of the transversal at each cell -/
def numR (n : Nat) (P : List (List Nat)) : List (List Int) := (List.range n).map fun r => rowN (fun a => (a : Int)) 0 n (P.map fun p => p.getD r 0)
def spNm (K : PySem.W.Frag) : Sp := fun vs H Q _ => ∃ (pa : Addr) (us : List V) (n : Nat) (P : List (List Nat)), vs = [.ref pa] ∧ SqL K H pa us ∧ P.length = n ∧ us.length = n ∧ (∀ a u, us[a]? = some u → ∃ q, u = .ref q ∧ SqT K H q ((natI (P.getD a [])).map V.int)) ∧ (∀ p ∈ P, p.length = n ∧ ∀ x ∈ p, x < n) ∧ 1 ≤ n ∧ n ≤ 12 ∧ RetP K (sqrD true true (numR n P)) H Q
set_option maxHeartbeats 2000000 in
theorem ok_numbered (D : Df K mg "numbered" s_numbered ["parts"]) (B : Bt mg) : Cd P w K mg base 1 "numbered" (spNm K) := by
  refine D.ok sc_numbered (fun vs H Q E h => ?_) (fun f cdv A outer s H vs Q E hr h => ?_)
  · obtain ⟨pa, _, _, _, rfl, _⟩ := h; rfl
  · obtain ⟨pa, us, n, P, rfl, hpa, hPl, hql, hqs, hP, h1, h12, q⟩ := h
    refine ⟨_, (pss_cons (ps_setLc (i := 1) (own := [("_", 5)]) rfl sc_numbered.nd rfl rfl (sw_true rfl rfl rfl (by decide +kernel)) (pi_listK (K := K) rfl (pv 0)) (blkOk_by (own := [("_", 5)]) (N := ["parts", "rows", "number", "columns", "r", "_", "row"]) (sc := defScope s_numbered) (by decide +kernel)) (fun _ _ _ _ _ => (pg_name (i := 5) sc_numbered.nd rfl (Or.inl rfl))) (fun _ _ _ _ _ => pts_nil) (fun _ _ _ _ _ => (pe_op op_rep (pe_lst (pa_cons pe_int pa_nil)) (pe_callB (call_lenK (K := K) rfl) (by rfl) B.len PySem.boot_len (pa_cons (pv 0) pa_nil)))))
      (pss_cons (ps_for PassesOwn.never rfl (pi_enum (by rfl) B.enumerate (pa_cons (pv 0) pa_nil)) (pg_tupK (K := K) (n := 2) rfl rfl (pgs_cons (pg_name (i := 2) sc_numbered.nd rfl (Or.inl rfl)) (pgs_cons (pg_name (i := 3) sc_numbered.nd rfl (Or.inl rfl)) pgs_nil))) (pss_one (ps_for PassesOwn.never rfl (pi_range1 (by rfl) B.range (pa_cons (pe_callB (call_lenK (K := K) rfl) (by rfl) B.len PySem.boot_len (pa_cons (pv 0) pa_nil)) pa_nil)) (pg_name (i := 4) sc_numbered.nd rfl (Or.inl rfl)) (pss_one (ps_asg (pv 2) (pg_sub (pe_ix (ix_listK (K := K) rfl) (pv 1) (pv 4) (fun _ _ => rfl)) (pe_ix (ix_tupK (K := K) rfl) (pv 3) (pv 4) (fun _ _ => rfl)) set_list))))))
      (pss_one (ps_ret (pe_callTy (call_tupleK (K := K) rfl) (by rfl) B.tuple boot_tuple (pa_cons (pe_lc (own := [("row", 6)]) rfl sc_numbered.nd (pi_listK (K := K) rfl (pv 1)) (blkOk_by (own := [("row", 6)]) (N := ["parts", "rows", "number", "columns", "r", "_", "row"]) (sc := defScope s_numbered) (by decide +kernel)) (fun _ _ _ _ _ => (pg_name (i := 6) sc_numbered.nd rfl (Or.inl rfl))) (fun _ _ _ _ _ => pts_nil) (fun _ _ _ _ _ => (pe_callTy (call_tupleK (K := K) rfl) (by rfl) B.tuple boot_tuple (pa_cons (pv 6) pa_nil)))) pa_nil)))))), ?_⟩
    have hqml : us.length = n := hql
    have lenP : ∀ {σ : L2.St} {Hx : Hp}, Ex H Hx → σ[0]? = some (some (.ref pa)) → Ev (tCB (fun vs H Q => ∃ p ys, vs = [V.ref p] ∧ (SqL K H p ys ∨ SqT K H p ys) ∧ Q (.int (ys.length : Int)) H) (tCons (tVar 0) tNil)) σ Hx (.int (n : Int)) := fun {σ Hx} ex hσ => ev_is (ev_lenL (ev_var hσ) (.inl (ex_l ex hpa))) (by rw [hqml])
    let cR : Nat → List Nat := fun r => P.map fun p => p.getD r 0
    let F : Nat → Nat → List V := fun k r => rowN (fun a => V.int (a : Int)) (.int 0) n ((cR r).take k)
    have hcR : ∀ r, (cR r).length = n := fun r => by show (P.map _).length = n; rw [List.length_map, hPl]
    refine q_rowsV (n := us.length) (F 0) (gets_list (ev_var rfl) hpa) (walk_list (xs := us)) (fun Hx ex => ex_l ex hpa) (fun i Hx x Hy y => y.1) (by omega) (fun _ => rfl) (fun m x Hx hm ex y => el_is (el_rep (el_lst (ea_cons ev_c ea_nil) (by decide)) (fun H2 e2 => lenP (ex.trans e2) rfl) (by omega) (by decide)) ?_) fun o bs H1 A => ?_
    · show (List.replicate (n : Int).toNat [V.int 0]).flatten = rowA _ (List.replicate n (V.int 0)) 0 []
      rw [rep1]; rfl
    rw [hqml] at A
    have hpa1 := ex_l A.ex hpa
    refine q_forW (gets_enum (ev_var rfl) hpa1) (walk_enum (xs := us)) (fun k σ' H' => ∃ y2 y3 y4, σ' = [some (.ref pa), some (.ref o), y2, y3, y4, none, none] ∧ RV H H' o bs n (F k)) ?_ ?_ ?_ ?_
    · intro H2 e2; exact ⟨_, _, _, rfl, A.up e2⟩
    · rintro k σ' H' _ ⟨_, _, _, rfl, A'⟩; exact ex_l A'.ex hpa
    · rintro k x σ' H' H2 hk1 ⟨y2, y3, y4, rfl, A'⟩ ⟨T, a1, a2, rfl, nT, rfl, f1, f2⟩
      obtain rfl : V.int (k : Nat) = a1 := Option.some.inj f1
      refine g_pair (st_of upd_same) ?_
      have A2 := A'.up (Ex.new nT (o := .tup [.int (k : Nat), a2]))
      have hkn : k < n := by omega
      have f3 : us[k]? = some a2 := f2
      obtain ⟨qk, rfl, hqk⟩ := hqs k _ f3
      have hPk : P.getD k [] ∈ P := by rw [List.getD_eq_getElem?_getD, List.getElem?_eq_getElem (by omega)]; exact List.getElem_mem _
      obtain ⟨hpl, hpb⟩ := hP _ hPk
      refine s_forW (gets_r1 (n := (n : Int)) (lenP A2.ex rfl) (by omega)) walk_range (fun r σ' H' => ∃ y4, σ' = [some (.ref pa), some (.ref o), some (.int (k : Int)), some (.ref qk), y4, none, none] ∧ RV H H' o bs n (fun i => if i < r then F (k + 1) i else F k i)) ?_ ?_ ?_ ?_
      · intro H3 e3
        refine ⟨_, rfl, ?_⟩
        have := A2.up e3
        have e : (fun i => if i < 0 then F (k + 1) i else F k i) = F k := by funext i; rw [if_neg (by omega)]
        rw [e]; exact this
      · intros; trivial
      · rintro r x σ' H'' H3 hr1 ⟨y4, rfl, A3⟩ ⟨rfl, rfl⟩
        have hr2 : r < n := by have : r < ((n : Int)).toNat := hr1; omega
        have hz : (0 : Int) + (r : Int) = (r : Int) := Int.zero_add _
        show gName 4 (.int (0 + (r : Int))) _ _ _
        rw [hz]
        refine gN ?_
        obtain ⟨b, hb1, hb2⟩ := A3.at hr2
        rw [if_neg (by omega)] at hb2
        have hcol : (P.getD k []).getD r 0 < n := by
          rw [List.getD_eq_getElem?_getD (l := P.getD k []), List.getElem?_eq_getElem (by omega)]; exact hpb _ (List.getElem_mem _)
        have hq3 := ex_t A3.ex hqk
        have hFl : (F k r).length = n := rowN_len _ _ _ _
        have hset : (F k r).set ((P.getD k []).getD r 0) (.int (k : Int)) = F (k + 1) r := by
          show _ = rowN _ _ n ((cR r).take (k + 1))
          have ht : (cR r).take (k + 1) = (cR r).take k ++ [(P.getD k []).getD r 0] := by
            rw [List.take_succ]
            congr 1
            show ((P.map fun p => p.getD r 0)[k]?).toList = _
            rw [List.getElem?_map, List.getElem?_eq_getElem (show k < P.length by omega), List.getD_eq_getElem?_getD (l := P), List.getElem?_eq_getElem (show k < P.length by omega)]; rfl
          rw [ht, rowN_snoc, List.length_take, hcR, Nat.min_eq_left (by omega)]
        refine s_setL (l := b) (xs := F k r) (j := (P.getD k []).getD r 0) hb2 (ev_var rfl) (ev_op (ev_var rfl) (ev_var rfl) (rv_ixLn (sq_of A3.is) (by rw [List.getElem?_map, hb1]; rfl))) (ev_op (ev_var rfl) (ev_var rfl) (rv_ixTn hq3 ?_)) (by rw [hFl]; exact hcol) fun H4 e4 => ?_
        · unfold natI
          rw [List.getElem?_map, List.getElem?_map, List.getElem?_eq_getElem (by omega), List.getD_eq_getElem?_getD (l := P.getD k []), List.getElem?_eq_getElem (by omega)]; rfl
        · refine ⟨_, rfl, ?_⟩
          rw [hset]
          have hfr : (fun i => if i < r + 1 then F (k + 1) i else F k i) r = F (k + 1) r := if_pos (by omega)
          rw [← hfr]
          exact A3.set (F' := fun i => if i < r + 1 then F (k + 1) i else F k i) e4 hb1 fun i hi hne => by
            show (if i < r + 1 then F (k + 1) i else F k i) = if i < r then F (k + 1) i else F k i
            by_cases h3 : i < r
            · rw [if_pos h3, if_pos (by omega)]
            · rw [if_neg h3, if_neg (by omega)]
      · rintro σ' H3 ⟨y4, rfl, A3⟩
        refine ⟨_, _, _, rfl, ?_⟩
        have e : ∀ i, i < n → (fun i => if i < ((n : Int)).toNat then F (k + 1) i else F k i) i = F (k + 1) i := fun i hi => if_pos (by omega)
        exact ⟨A3.ex, A3.no, A3.nb, A3.is, A3.len, fun i b hb => by rw [← e i (by have := (List.getElem?_eq_some_iff.mp hb).1; have := A3.len; omega)]; exact A3.row i b hb, A3.nd, A3.ap⟩
    · rintro σ' H2 ⟨y2, y3, y4, rfl, A2⟩
      rw [hqml] at A2
      have hrow : ∀ r, F n r = (rowN (fun a => (a : Int)) 0 n (cR r)).map V.int := fun r => by
        show rowN _ _ n ((cR r).take n) = _
        rw [List.take_of_length_le (by rw [hcR]; exact Nat.le_refl _)]
        exact (rowN_map n (cR r)).symm
      have hnl : (numR n P).length = n := by unfold numR; rw [List.length_map, List.length_range]
      have hdp : Dp K H2 (.ref o) (sqrD false false (numR n P)) := by
        refine .lst (sq_of A2.is) (dpAll_rows bs (numR n P) (by rw [A2.len, hnl]) fun i b hb => ?_)
        have hi : i < n := by have := (List.getElem?_eq_some_iff.mp hb).1; have := A2.len; omega
        rw [A2.row i b hb, hrow]
        unfold numR
        rw [getD_map_range n _ i [] hi]
      refine s_retQ (evq_of (evd_toT (ev_var rfl) hdp (by omega) (fun _ => rfl) (fun _ => rfl))) fun v H3 e3 hv => q v H3 (A2.ex.trans e3) hv

end
end My
namespace My
open PySem PySem.Spec PyProof.Rows L2 Evl Mi Mm
abbrev s_parts_of : Stmt := top 16
theorem sc_parts_of : FnScope ["rows", "other", "sign", "row"] ["rows", "other"] (defScope s_parts_of) := ⟨rfl, rfl, rfl, by decide +kernel, rfl, by decide +kernel, by decide +kernel⟩
section
variable {P : Program} {w : World} {K : PySem.W.Frag} {mg : Str → Option Value} {base : Heap}
theorem idx_spec : ∀ (row : List Int) (s : Int), s ∈ row → row[row.idxOf s]? = some s ∧ ∀ (m : Nat) (z : Int), m < row.idxOf s → row[m]? = some z → z ≠ s
  | [], s, h => by cases h
  | x :: row, s, h => by
    rw [List.idxOf_cons]
    by_cases hx : x = s
    · rw [beq_iff_eq.mpr hx]
      exact ⟨congrArg some hx, fun m z hm => by cases hm⟩
    · have hb : (x == s) = false := beq_eq_false_iff_ne.mpr hx
      rw [hb]
      have hm : s ∈ row := by
        rcases List.mem_cons.mp h with h | h
        · exact absurd h.symm hx
        · exact h
      obtain ⟨h1, h2⟩ := idx_spec row s hm
      refine ⟨h1, fun m z hm hz => ?_⟩
      cases m with
      | zero => cases hz; exact hx
      | succ m => exact h2 m z (by have : m + 1 < row.idxOf s + 1 := hm; omega) hz
/-- the transversal of a sign -/
def colsIn (n : Nat) (other : List (List Int)) (s : Nat) : List Int := (List.range n).map fun r => (((other.getD r []).idxOf (s : Int) : Nat) : Int)
def partD (n : Nat) (other : List (List Int)) : PyData := .list ((List.range n).map fun s => .tuple (pints (colsIn n other s)))
def spPO (K : PySem.W.Frag) (tp : Addr) : Sp := fun vs H Q _ => ∃ (v u : V) (n : Nat) (one other : List (List Int)) (o1 i1 : Bool), vs = [v, u] ∧ Two K H v u n one other o1 i1 false false ∧ H tp = some (tabO tp) ∧ Rep n one other none ∧ RetP K (partD n other) H Q
theorem ok_parts_of {tp : Addr} (D : Df K mg "parts_of" s_parts_of ["rows", "other"]) (B : Bt mg) (c_are_mates : Cd P w K mg base 5 "are_mates" (spMat K tp)) : Cd P w K mg base 6 "parts_of" (spPO K tp) := by
  refine D.ok sc_parts_of (fun vs H Q E h => ?_) (fun f cdv A outer s H vs Q E hr h => ?_)
  · obtain ⟨v, u, _, _, _, _, _, rfl, _⟩ := h; rfl
  · obtain ⟨v, u, n, one, other, o1, i1, rfl, T, hT, hR, q⟩ := h
    refine ⟨_, (pss_cons (ps_if (pt_not (pt_val (pe_cd c_are_mates hr (by first | decide | omega) (by rfl) (pa_cons (pv 0) (pa_cons (pv 1) pa_nil))))) (pss_one ps_never) pss_nil)
      (pss_one (ps_ret (pe_lc (own := [("sign", 2)]) rfl sc_parts_of.nd (pi_range1 (by rfl) B.range (pa_cons (pe_callB (call_lenK (K := K) rfl) (by rfl) B.len PySem.boot_len (pa_cons (pv 1) pa_nil)) pa_nil)) (blkOk_by (own := [("sign", 2)]) (N := ["rows", "other", "sign", "row"]) (sc := defScope s_parts_of) (by decide +kernel)) (fun _ _ _ _ _ => (pg_name (i := 2) sc_parts_of.nd rfl (Or.inr rfl))) (fun _ _ _ _ _ => pts_nil) (fun _ _ _ _ _ => (pe_callTy (call_tupleK (K := K) rfl) (by rfl) B.tuple boot_tuple (pa_cons (pe_lc (own := [("row", 3)]) rfl sc_parts_of.nd (pi_listK (K := K) rfl (pv 1)) (blkOk_in (own := [("row", 3)]) (N := ["rows", "other", "sign", "row"]) (sc := defScope s_parts_of) rfl rfl (by decide +kernel)) (fun _ _ _ _ _ => (pg_name (i := 3) sc_parts_of.nd rfl (Or.inl rfl))) (fun _ _ _ _ _ => pts_nil) (fun _ _ _ _ _ => (pe_idxL (K := K) rfl (pv 3) (pa_cons (pv 2) pa_nil)))) pa_nil))))))), ?_⟩
    have L := T.l2
    have hl := L.len
    have h12 := T.h2
    obtain ⟨b, rfl⟩ := dp_refS (t := false) T.d2
    refine q_when (b := false) (et_is (et_not (a := true) (et_B (ev_call (vs := [v, .ref b]) (z := .bl true) (ea_cons (ev_var rfl) (ea_cons (ev_var rfl) ea_nil)) fun H1 e1 Q q E => ⟨v, .ref b, n, one, other, o1, i1, false, false, none, rfl, ⟨dp_mono e1 _ _ T.d1, dp_mono e1 _ _ T.d2, T.l1, T.l2, T.h1, T.h2⟩, e1 tp _ hT, hR, q⟩))) rfl) (fun z => by cases z) (fun _ H1 e1 => ?_)
    have hd := dp_mono e1 _ _ T.d2
    refine s_retQ (d := partD n other) (evq_of ?_) fun w H2 e2 hw => q w H2 (e1.trans e2) hw
    have h := evd_lcR (K := K) (H := H1) (n := (n : Int)) (te := tCB (fun vs H Q => ∃ p ys, vs = [V.ref p] ∧ (SqL K H p ys ∨ SqT K H p ys) ∧ Q (.int (ys.length : Int)) H) (tCons (tVar 1) tNil)) (σ := [some v, some (.ref b), none, none]) (j := 2) (vs := [2]) (ta := tTupO K (tLc (iList K (tVar 1)) (gName 3) tYes (tBM K "list" (rIndex K) (tVar 3) (tCons (tVar 2) tNil)) [3])) (fun s => .tuple (pints (colsIn n other s))) (ev_is (ev_lenD (t := false) (evd_of (ev_var rfl) hd)) (by rw [List.length_map, hl])) (by omega) (fun _ => rfl) (fun s hs => ?_)
    · rw [Int.toNat_natCast] at h; exact h
    · have hs2 : s < n := by omega
      refine evd_rowT (r := colsIn n other s) ?_
      have h := evd_lcL (K := K) (H := H1) (ta := tBM K "list" (rIndex K) (tVar 3) (tCons (tVar 2) tNil)) (ds := other.map (rowD false)) (a := b) (tl := tVar 1) (j := 3) (vs := [3]) (σ := (wipe [some v, some (.ref b), none, none] [2]).set 2 (some (.int (s : Int)))) (fun r => PyData.int (((other.getD r []).idxOf (s : Int) : Nat) : Int)) (ev_var rfl) hd (by rw [List.length_map]; omega) (fun _ => rfl) (fun r x dx hdx hx => by
        have hr1 : r < other.length := by have := (List.getElem?_eq_some_iff.mp hdx).1; rwa [List.length_map] at this
        rw [rows_get hr1] at hdx
        cases hdx
        obtain ⟨rb, rfl, hrb⟩ := dp_rowL hx
        have hm : (s : Int) ∈ other.getD r [] := (L.row r (by omega)).mem_iff.mpr (iota_mem.mpr (by omega))
        obtain ⟨g1, g2⟩ := idx_spec _ _ hm
        exact evd_int (ev_idxLL (ev_var rfl) hrb (ev_var rfl) rfl (by rw [List.all_eq_true]; intro y hy; obtain ⟨z, _, rfl⟩ := List.mem_map.mp hy; rfl) (z := .int (s : Int)) (by rw [List.getElem?_map, g1]; rfl) (beq_iff_eq.mpr rfl) fun m z' hm2 hz => by
          rw [List.getElem?_map] at hz
          cases hg : (other.getD r [])[m]? with
          | none => rw [hg] at hz; cases hz
          | some y =>
            rw [hg] at hz
            cases hz
            exact beq_eq_false_iff_ne.mpr (g2 m y hm2 hg)))
      rw [List.length_map, hl] at h
      unfold rowD colsIn pints
      rw [List.map_map]
      exact h

end
end My
namespace My
open PySem PySem.Spec PyProof.Rows L2 Evl Mi Mm
abbrev s__law_pick : Stmt := top 21
theorem sc__law_pick : FnScope ["numbers", "at", "most"] ["numbers", "at", "most"] (defScope s__law_pick) := ⟨rfl, rfl, rfl, by decide +kernel, rfl, by decide +kernel, by decide +kernel⟩
abbrev s__law_field_sum : Stmt := top 22
theorem sc__law_field_sum : FnScope ["p", "a", "b", "total", "step", "k"] ["p", "a", "b"] (defScope s__law_field_sum) := ⟨rfl, rfl, rfl, by decide +kernel, rfl, by decide +kernel, by decide +kernel⟩
abbrev s__law_powers : Stmt := top 23
theorem sc__law_powers : FnScope ["q"] ["q"] (defScope s__law_powers) := ⟨rfl, rfl, rfl, by decide +kernel, rfl, by decide +kernel, by decide +kernel⟩
abbrev s__law_field_product : Stmt := top 24
theorem sc__law_field_product : FnScope ["q", "a", "b", "powers"] ["q", "a", "b"] (defScope s__law_field_product) := ⟨rfl, rfl, rfl, by decide +kernel, rfl, by decide +kernel, by decide +kernel⟩
abbrev s__law_shuffled : Stmt := top 25
theorem sc__law_shuffled : FnScope ["numbers", "at", "count", "names", "k", "j"] ["numbers", "at", "count"] (defScope s__law_shuffled) := ⟨rfl, rfl, rfl, by decide +kernel, rfl, by decide +kernel, by decide +kernel⟩
section
variable {P : Program} {w : World} {K : PySem.W.Frag} {mg : Str → Option Value} {base : Heap}
def spPick (K : PySem.W.Frag) : Sp := fun vs H Q _ => ∃ (a : Addr) (ns : List Int) (i : Nat) (m : Int), vs = [.ref a, .int (i : Int), .int m] ∧ SqL K H a (ns.map V.int) ∧ i < ns.length ∧ 0 < m ∧ RetV (.int (ns.getD i 0 % m)) H Q
theorem ok__law_pick (D : Df K mg "_law_pick" s__law_pick ["numbers", "at", "most"]) (B : Bt mg) : Cd P w K mg base 1 "_law_pick" (spPick K) := by
  refine D.ok sc__law_pick (fun vs H Q E h => ?_) (fun f cdv A outer s H vs Q E hr h => ?_)
  · obtain ⟨a, ns, i, m, rfl, _⟩ := h; rfl
  · obtain ⟨a, ns, i, m, rfl, hS, hi, hm, q⟩ := h
    refine ⟨_, (pss_one (ps_ret (pe_op op_mod (pe_callTy call_int1 (by rfl) B.int boot_int (pa_cons (pe_ix (ix_listK (K := K) rfl) (pv 0) (pv 1) (fun _ _ => rfl)) pa_nil)) (pv 2)))), ?_⟩
    exact s_ret (ev_op (ev_int (ea_cons (ev_numL (ev_var rfl) hS (ev_var rfl) hi) ea_nil)) (ev_var rfl) (rv_I hm)) fun H1 e1 => q H1 e1
def spFsum : Sp := fun vs H Q _ => ∃ (a b : Int), vs = [.int 2, .int a, .int b] ∧ RetV (.int (fs2 a b)) H Q
theorem ok__law_field_sum (D : Df K mg "_law_field_sum" s__law_field_sum ["p", "a", "b"]) (B : Bt mg) : Cd P w K mg base 1 "_law_field_sum" spFsum := by
  refine D.ok sc__law_field_sum (fun vs H Q E h => ?_) (fun f cdv A outer s H vs Q E hr h => ?_)
  · obtain ⟨a, b, rfl, _⟩ := h; rfl
  · obtain ⟨a, b, rfl, q⟩ := h
    refine ⟨_, (pss_cons (ps_set (i := 3) sc__law_field_sum.nd rfl (Or.inl rfl) pe_int)
      (pss_cons (ps_set (i := 4) sc__law_field_sum.nd rfl (Or.inl rfl) pe_int)
      (pss_cons (ps_for PassesOwn.never rfl (pi_range1 (by rfl) B.range (pa_cons pe_int pa_nil)) (pg_name (i := 5) sc__law_field_sum.nd rfl (Or.inl rfl)) (pss_cons (ps_set (i := 3) sc__law_field_sum.nd rfl (Or.inl rfl) (pe_op op_add (pv 3) (pe_op op_mul (pe_op op_mod (pe_callTy call_int1 (by rfl) B.int boot_int (pa_cons (pe_op op_add (pe_op op_mod (pe_callTy call_int1 (by rfl) B.int boot_int (pa_cons (pv 1) pa_nil)) (pv 0)) (pe_op op_mod (pe_callTy call_int1 (by rfl) B.int boot_int (pa_cons (pv 2) pa_nil)) (pv 0))) pa_nil)) (pv 0)) (pv 4))))
          (pss_cons (ps_set (i := 1) sc__law_field_sum.nd rfl (Or.inl rfl) (pe_callTy call_int1 (by rfl) B.int boot_int (pa_cons (pe_op op_fdiv (pv 1) (pv 0)) pa_nil)))
          (pss_cons (ps_set (i := 2) sc__law_field_sum.nd rfl (Or.inl rfl) (pe_callTy call_int1 (by rfl) B.int boot_int (pa_cons (pe_op op_fdiv (pv 2) (pv 0)) pa_nil)))
          (pss_one (ps_set (i := 4) sc__law_field_sum.nd rfl (Or.inl rfl) (pe_op op_mul (pv 4) (pv 0))))))))
      (pss_one (ps_ret (pv 3)))))), ?_⟩
    refine q_asg ev_c fun H1 e1 => ?_
    refine q_asg ev_c fun H2 e2 => ?_
    refine q_forW (gets_r1 (n := 4) ev_c (by decide)) walk_range (fun i σ' H' => ∃ (t s a' b' : Int) (y : Option V), σ' = [some (.int 2), some (.int a'), some (.int b'), some (.int t), some (.int s), y] ∧ Ex H H' ∧ fsum 2 (4 - i) t s a' b' = fs2 a b) ?_ ?_ ?_ ?_
    · intro H3 e3; exact ⟨0, 1, a, b, none, rfl, (e1.trans e2).trans e3, rfl⟩
    · intros; trivial
    · rintro i x σ' H' H3 hi ⟨t, s, a', b', y, rfl, e, hq⟩ ⟨rfl, rfl⟩
      have hi2 : i < 4 := hi
      obtain ⟨n, hn⟩ : ∃ n, 4 - i = n + 1 := ⟨4 - i - 1, by omega⟩
      have hn2 : 4 - (i + 1) = n := by omega
      rw [hn, fsum] at hq
      refine gN ?_
      refine q_asg (ev_op (ev_var rfl) (ev_op (ev_op (ev_int (ea_cons (ev_op (ev_op (ev_int (ea_cons (ev_var rfl) ea_nil)) (ev_var rfl) (rv_I (by decide))) (ev_op (ev_int (ea_cons (ev_var rfl) ea_nil)) (ev_var rfl) (rv_I (by decide))) rv_I0) ea_nil)) (ev_var rfl) (rv_I (by decide))) (ev_var rfl) (rv_I (.inl ⟨by omega, by omega⟩))) rv_I0) fun H4 e4 => ?_
      refine q_asg (ev_int (ea_cons (ev_op (ev_var rfl) (ev_var rfl) (rv_I ⟨by decide, by decide⟩)) ea_nil)) fun H5 e5 => ?_
      refine q_asg (ev_int (ea_cons (ev_op (ev_var rfl) (ev_var rfl) (rv_I ⟨by decide, by decide⟩)) ea_nil)) fun H6 e6 => ?_
      refine s_asg (ev_op (ev_var rfl) (ev_var rfl) (rv_I (.inr ⟨by decide, by decide⟩))) fun H7 e7 => ?_
      exact ⟨_, _, _, _, _, rfl, (((e.trans e4).trans e5).trans e6).trans e7, by rw [hn2]; exact hq⟩
    · rintro σ' H' ⟨t, s, a', b', y, rfl, e, hq⟩
      refine s_ret (ev_var rfl) fun H2 e2 => ?_
      have h0 : fsum 2 (4 - (4 : Int).toNat) t s a' b' = t := rfl
      rw [h0] at hq
      rw [hq]; exact q H2 (e.trans e2)
def spPow4 : Sp := fun vs H Q _ => vs = [.int 4] ∧ ∀ p ob H2, H p = none → Ex H H2 → ob.cls = .type "tuple" → ob.dict = none → H2 p = some (.frz ob (.tup [.int 1, .int 2, .int 3])) → Q (.ref p) H2
theorem ok__law_powers (D : Df K mg "_law_powers" s__law_powers ["q"]) : Cd P w K mg base 1 "_law_powers" spPow4 := by
  refine D.ok sc__law_powers (fun vs H Q E h => ?_) (fun f cdv A outer s H vs Q E hr h => ?_)
  · obtain ⟨rfl, _⟩ := h; rfl
  · obtain ⟨rfl, q⟩ := h
    refine ⟨_, (pss_cons (ps_if (pt_cmpR op_eq (pv 0) pe_int (nomark _)) (pss_one (ps_ret (pe_tupF (pa_cons pe_int (pa_cons pe_int (pa_cons pe_int pa_nil)))))) pss_nil)
      (pss_cons (ps_if (pt_cmpR op_eq (pv 0) pe_int (nomark _)) (pss_one (ps_ret (pe_tupF (pa_cons pe_int (pa_cons pe_int (pa_cons pe_int (pa_cons pe_int (pa_cons pe_int (pa_cons pe_int (pa_cons pe_int pa_nil)))))))))) pss_nil)
      (pss_one (ps_ret (pe_tupF (pa_cons pe_int (pa_cons pe_int (pa_cons pe_int (pa_cons pe_int (pa_cons pe_int (pa_cons pe_int (pa_cons pe_int (pa_cons pe_int pa_nil))))))))))))), ?_⟩
    refine q_when (b := true) (et_test (ev_op (ev_var rfl) ev_c (rv_eq rfl))) (fun _ H1 e1 => ?_) (fun z => by cases z)
    exact s_retTF (ea_cons ev_c (ea_cons ev_c (ea_cons ev_c ea_nil))) (by show 3 ≤ 100000; decide) fun p ob H2 np e2 hc hd hp => q p ob H2 (fresh_back e1 np) (e1.trans e2) hc hd hp
def spFprod : Sp := fun vs H Q _ => ∃ (a b : Int), vs = [.int 4, .int a, .int b] ∧ (0 ≤ a ∧ a ≤ 3) ∧ (0 ≤ b ∧ b ≤ 3) ∧ RetV (.int (fp4 a b)) H Q
theorem ok__law_field_product (D : Df K mg "_law_field_product" s__law_field_product ["q", "a", "b"]) (c__law_powers : Cd P w K mg base 1 "_law_powers" spPow4) : Cd P w K mg base 2 "_law_field_product" spFprod := by
  refine D.ok sc__law_field_product (fun vs H Q E h => ?_) (fun f cdv A outer s H vs Q E hr h => ?_)
  · obtain ⟨a, b, rfl, _⟩ := h; rfl
  · obtain ⟨a, b, rfl, ha, hb, q⟩ := h
    refine ⟨_, (pss_cons (ps_if (pw_or (pt_cmpR op_eq (pv 1) pe_int (nomark _)) (pw_or1 (pt_cmpR op_eq (pv 2) pe_int (nomark _)))).pt (pss_one (ps_ret pe_int)) pss_nil)
      (pss_cons (ps_set (i := 3) sc__law_field_product.nd rfl (Or.inl rfl) (pe_cd c__law_powers hr (by first | decide | omega) (by rfl) (pa_cons (pv 0) pa_nil)))
      (pss_one (ps_ret (pe_ix (ix_tupK (K := K) rfl) (pv 3) (pe_op op_mod (pe_op op_add (pe_mG ty_frz PySem.F.plainAttrs_tuple PySem.F.slot_tuple_index PySem.F.type_tuple_index (mt_indexTK (K := K) rfl) (pv 3) (pa_cons (pv 1) pa_nil)) (pe_mG ty_frz PySem.F.plainAttrs_tuple PySem.F.slot_tuple_index PySem.F.type_tuple_index (mt_indexTK (K := K) rfl) (pv 3) (pa_cons (pv 2) pa_nil))) (pe_op op_sub (pv 0) pe_int)) (fun _ _ => rfl)))))), ?_⟩
    refine q_when (et_or (et_test (ev_op (ev_var rfl) ev_c (rv_eq rfl))) fun _ => et_test (ev_op (ev_var rfl) ev_c (rv_eq rfl))) (fun hz H1 e1 => ?_) (fun hz H1 e1 => ?_)
    · refine s_ret ev_c fun H2 e2 => ?_
      have : fp4 a b = 0 := by
        unfold fp4
        refine if_pos ?_
        rcases Bool.or_eq_true_iff.mp hz with h | h
        · exact .inl (V.int.inj (of_decide_eq_true h))
        · exact .inr (V.int.inj (of_decide_eq_true h))
      rw [this] at q; exact q H2 (e1.trans e2)
    have hz2 := Bool.or_eq_false_iff.mp hz
    have na : a ≠ 0 := fun z => of_decide_eq_false hz2.1 (congrArg V.int z)
    have nb : b ≠ 0 := fun z => of_decide_eq_false hz2.2 (congrArg V.int z)
    refine q_callA (ea_cons (ev_var rfl) ea_nil) fun H2 e2 => ⟨rfl, fun p ob H3 np e3 hc hd hp => ?_⟩
    have hm : 0 ≤ (a - 1 + (b - 1)) % 3 ∧ (a - 1 + (b - 1)) % 3 < 3 := ⟨Int.emod_nonneg _ (by decide), Int.emod_lt_of_pos _ (by decide)⟩
    refine s_ret (ev_op (ev_var rfl) (ev_natI (ev_op (ev_op (ev_idx3 (ev_var rfl) hp hc hd (ev_var rfl) (by omega)) (ev_idx3 (ev_var rfl) hp hc hd (ev_var rfl) (by omega)) rv_I0) (ev_op (ev_var rfl) ev_c rv_I0) (rv_I (by decide))) (by show 0 ≤ (a - 1 + (b - 1)) % 3; exact hm.1)) (rv_ixTn (xs := [.int 1, .int 2, .int 3]) (v := .int (fp4 a b)) (.inl (.inr ⟨ob, hp⟩)) ?_)) fun H4 e4 => q H4 (((e1.trans e2).trans e3).trans e4)
    show ([.int 1, .int 2, .int 3] : List V)[((a - 1 + (b - 1)) % 3).toNat]? = _
    unfold fp4
    rw [if_neg (by omega)]
    generalize (a - 1 + (b - 1)) % 3 = z at hm
    rcases (show z = 0 ∨ z = 1 ∨ z = 2 by omega) with rfl | rfl | rfl <;> rfl
def spPlain (K : PySem.W.Frag) : Sp := fun vs H Q _ => ∃ (x : Int), vs = [.int x] ∧ ∀ n rows, Lat n rows → 2 ≤ n → n ≤ 7 → RetP K (sqrD false false rows) H Q
theorem swap_perm {s : List Int} {n k j : Nat} (h : s.Perm (iota n)) (hk : k < n) (hj : j < n) : ((s.set k (s.getD j 0)).set j (s.getD k 0)).Perm (iota n) := by
  have hl := h.length_eq.trans (iota_len n)
  have e1 : s.getD j 0 = s[j]'(by omega) := by rw [List.getD_eq_getElem?_getD, List.getElem?_eq_getElem (by omega)]; rfl
  have e2 : s.getD k 0 = s[k]'(by omega) := by rw [List.getD_eq_getElem?_getD, List.getElem?_eq_getElem (by omega)]; rfl
  rw [e1, e2]
  exact (List.set_set_perm (by omega) (by omega)).trans h
theorem map_set2 {s : List Int} {k j : Nat} {a b : Int} : ((s.map V.int).set k (.int a)).set j (.int b) = ((s.set k a).set j b).map V.int := by rw [List.map_set, List.map_set]
def spShuf (K : PySem.W.Frag) : Sp := fun vs H Q _ => ∃ (a : Addr) (ns : List Int) (i n : Nat), vs = [.ref a, .int (i : Int), .int (n : Int)] ∧ SqL K H a (ns.map V.int) ∧ i + n ≤ ns.length ∧ (1 ≤ n ∧ n ≤ 12) ∧ ∀ p H2 (s : List Int), H p = none → Ex H H2 → H2 p = some (.lst (s.map V.int)) → s.Perm (iota n) → Q (.ref p) H2
theorem ok__law_shuffled (D : Df K mg "_law_shuffled" s__law_shuffled ["numbers", "at", "count"]) (B : Bt mg) : Cd P w K mg base 1 "_law_shuffled" (spShuf K) := by
  refine D.ok sc__law_shuffled (fun vs H Q E h => ?_) (fun f cdv A outer s H vs Q E hr h => ?_)
  · obtain ⟨a, ns, i, n, rfl, _⟩ := h; rfl
  · obtain ⟨a, ns, at0, n, rfl, hS, hi, hn, q⟩ := h
    refine ⟨_, (pss_cons (ps_set (i := 3) sc__law_shuffled.nd rfl (Or.inl rfl) (pe_listRg rfl (by rfl) B.list (prg_1 (by rfl) B.range (pv 2))))
      (pss_cons (ps_for PassesOwn.never rfl (pi_range3 (by rfl) B.range (pa_cons (pe_op op_sub (pv 2) pe_int) (pa_cons pe_int (pa_cons (pe_un un_neg pe_int) pa_nil)))) (pg_name (i := 4) sc__law_shuffled.nd rfl (Or.inl rfl)) (pss_cons (ps_set (i := 5) sc__law_shuffled.nd rfl (Or.inl rfl) (pe_op op_mod (pe_callTy call_int1 (by rfl) B.int boot_int (pa_cons (pe_ix (ix_listK (K := K) rfl) (pv 0) (pe_op op_add (pv 1) (pv 4)) (fun _ _ => rfl)) pa_nil)) (pe_op op_add (pv 4) pe_int)))
          (pss_one (ps_asg (pe_tup (pa_cons (pe_ix (ix_listK (K := K) rfl) (pv 3) (pv 5) (fun _ _ => rfl)) (pa_cons (pe_ix (ix_listK (K := K) rfl) (pv 3) (pv 4) (fun _ _ => rfl)) pa_nil))) (pg_tupK (K := K) (n := 2) rfl rfl (pgs_cons (pg_sub (pv 3) (pv 4) set_list) (pgs_cons (pg_sub (pv 3) (pv 5) set_list) pgs_nil)))))))
      (pss_one (ps_ret (pv 3))))), ?_⟩
    refine q_asgL (el_listRg (ev_var rfl) (by omega)) fun o H1 no e1 ho => ?_
    refine q_forW (gets_r3 (lo := (n : Int) - 1) (n := 0) (ev_op (ev_var rfl) ev_c rv_I0) ev_c (ev_un ev_c ru_neg) (by omega)) walk_rangeC (fun t σ' H' => ∃ (s : List Int) (y4 y5 : Option V), σ' = [some (.ref a), some (.int (at0 : Int)), some (.int (n : Int)), some (.ref o), y4, y5] ∧ Ex H H' ∧ H' o = some (.lst (s.map V.int)) ∧ s.Perm (iota n)) ?_ ?_ ?_ ?_
    · intro H2 e2; exact ⟨_, none, none, rfl, e1.trans e2, e2 o _ ho, List.Perm.refl _⟩
    · intros; trivial
    · rintro t x σ' H' H2 ht ⟨s, y4, y5, rfl, e, ho', hp⟩ ⟨rfl, rfl⟩
      have ht2 : t < n - 1 := by have : t < ((n : Int) - 1 - 0).toNat := ht; omega
      have hsl := hp.length_eq.trans (iota_len n)
      obtain ⟨k, hk, hk1, hk2⟩ : ∃ k : Nat, (n : Int) - 1 + (t : Int) * -1 = (k : Int) ∧ 1 ≤ k ∧ k < n := ⟨n - 1 - t, by omega, by omega, by omega⟩
      show gName 4 (.int ((n : Int) - 1 + (t : Int) * -1)) _ _ _
      rw [hk]
      refine gN ?_
      obtain ⟨j, hj, hj2⟩ : ∃ j : Nat, ns.getD (at0 + k) 0 % ((k : Int) + 1) = (j : Int) ∧ j < n := by
        have h1 := Int.emod_nonneg (ns.getD (at0 + k) 0) (show ((k : Int) + 1) ≠ 0 by omega)
        have h2 := Int.emod_lt_of_pos (ns.getD (at0 + k) 0) (show 0 < ((k : Int) + 1) by omega)
        exact ⟨_, (Int.toNat_of_nonneg h1).symm, by omega⟩
      have hat : ((at0 : Int) + (k : Int)) = ((at0 + k : Nat) : Int) := by omega
      refine q_asg (v := .int (j : Int)) (ev_is (ev_op (ev_int (ea_cons (ev_numL (i := at0 + k) (ev_var rfl) (ex_l e hS) (ev_is (ev_op (ev_var rfl) (ev_var rfl) rv_I0) (congrArg V.int hat)) (by omega)) ea_nil)) (ev_op (ev_var rfl) ev_c rv_I0) (rv_I (by omega))) (congrArg V.int hj)) fun H3 e3 => ?_
      refine s_swap (l := o) (xs := s.map V.int) (i := k) (j := j) (a := .int (s.getD k 0)) (b := .int (s.getD j 0)) (e3 o _ ho') (fun H4 e4 => ev_numL (ev_var rfl) (sq_of (e4 o _ (e3 o _ ho'))) (ev_var rfl) (by omega)) (fun H4 e4 => ev_numL (ev_var rfl) (sq_of (e4 o _ (e3 o _ ho'))) (ev_var rfl) (by omega)) (fun H4 => ev_var rfl) (fun H4 => ev_var rfl) (fun H4 => ev_var rfl) (fun H4 => ev_var rfl) (by rw [List.length_map]; omega) (by rw [List.length_map]; omega) fun H4 e4 => ?_
      exact ⟨_, _, _, rfl, ((e.trans e3).trans e4).mut no, by rw [upd_same, map_set2], swap_perm hp hk2 hj2⟩
    · rintro σ' H' ⟨s, y4, y5, rfl, e, ho', hp⟩
      exact s_ret (ev_var rfl) fun H2 e2 => q o H2 s no (e.trans e2) (e2 o _ ho') hp
def spSq (K : PySem.W.Frag) : Sp := fun vs H Q _ => ∃ (a : Addr) (ns : List Int) (i : Nat), vs = [.ref a, .int (i : Int)] ∧ SqL K H a (ns.map V.int) ∧ i + 40 ≤ ns.length ∧ ∀ n rows, Lat n rows → 2 ≤ n → n ≤ 7 → RetP K (sqrD true true rows) H Q
def spLists (K : PySem.W.Frag) : Sp := fun vs H Q _ => ∃ (v : V) (n : Nat) (rows : List (List Int)), vs = [v] ∧ Dp K H v (sqrD true true rows) ∧ Lat n rows ∧ n ≤ 12 ∧ RetP K (sqrD false false rows) H Q
end
end My
namespace My
open PySem PySem.Spec PyProof.Rows L2 Evl Mi Mm
abbrev s__law_two : Stmt := top 26
theorem sc__law_two : FnScope ["numbers", "at", "n", "j", "k", "rows", "columns", "made", "turn", "times", "signs", "square", "r", "line", "c", "sign"] ["numbers", "at"] (defScope s__law_two) := ⟨rfl, rfl, rfl, by decide +kernel, rfl, by decide +kernel, by decide +kernel⟩
section
variable {P : Program} {w : World} {K : PySem.W.Frag} {mg : Str → Option Value} {base : Heap}
theorem snocD {K : PySem.W.Frag} {H : Hp} {us : List V} {a i : Bool} {fam : List (List (List Int))} {v : V} {R : List (List Int)} (h : DpAll K H us (fam.map (sqrD a i))) (hv : Dp K H v (sqrD a i R)) : DpAll K H (us ++ [v]) ((fam ++ [R]).map (sqrD a i)) := by
  rw [List.map_append]; exact dpAll_snoc h hv
theorem snocR {K : PySem.W.Frag} {H : Hp} {us : List V} {i : Bool} {R : List (List Int)} {v : V} {r : List Int} (h : DpAll K H us (R.map (rowD i))) (hv : Dp K H v (rowD i r)) : DpAll K H (us ++ [v]) ((R ++ [r]).map (rowD i)) := by
  rw [List.map_append]; exact dpAll_snoc h hv
def rm1 (H : Hp) (a : Addr) : Hp := rm2 H a a
theorem rm1_of {H : Hp} {a c : Addr} {o : HO} (h1 : c ≠ a) (h : H c = some o) : rm1 H a c = some o := rm2_of h1 h1 h
theorem rm1_ex (H : Hp) (a : Addr) : Ex (rm1 H a) H := rm2_ex H a a
theorem rm1_ups {H H1 : Hp} {a : Addr} (e : Ex H H1) : Ex (rm1 H a) (rm1 H1 a) := rm2_ups e
theorem rm1_upd {H : Hp} {a : Addr} {u : HO} : Ex (rm1 H a) (rm1 (upd H a u) a) := rm2_fold (rm2_updA (rm2_ex H a a))
theorem rm2_of1 {H H1 : Hp} {a b : Addr} (e : Ex H H1) (h : H b = none) : Ex (rm1 H a) (rm2 H1 a b) := fun c o hc => by
  obtain ⟨h1, _, h3⟩ := rm2_at hc
  exact rm2_of h1 (fun z => by rw [z, h] at h3; cases h3) (e c o h3)
theorem rm1_of2 (H : Hp) (a b : Addr) : Ex (rm2 H a b) (rm1 H a) := fun c o hc => by
  obtain ⟨h1, _, h3⟩ := rm2_at hc
  exact rm1_of h1 h3
theorem map_getD {n : Nat} {l : List Int} (hl : l.length = n) (F : Nat → Int) : (List.range n).map (fun r => F (l.getD r 0).toNat) = l.map fun x => F x.toNat := range_map_get l n hl (fun x => F x.toNat)
def oddN (n : Nat) : Prop := n = 3 ∨ n = 4 ∨ n = 5 ∨ n = 7
def spTwo (K : PySem.W.Frag) : Sp := fun vs H Q _ => ∃ (a : Addr) (ns : List Int), vs = [.ref a, .int 0] ∧ SqL K H a (ns.map V.int) ∧ 60 ≤ ns.length ∧ ∀ (n : Nat) (P R : List (List Int)) (mo : Addr) (us : List V) (H2 : Hp), oddN n → Lat n P → Lat n R → Rep n P R none → H mo = none → Ex H H2 → H2 mo = some (.lst us) → DpAll K (rm1 H2 mo) us ([P, R].map (sqrD true true)) → FrzF K (rm1 H2 mo) us [P, R] → Q (.ref mo) H2
set_option maxHeartbeats 4000000 in
theorem ok__law_two (D : Df K mg "_law_two" s__law_two ["numbers", "at"]) (B : Bt mg) (c__law_pick : Cd P w K mg base 1 "_law_pick" (spPick K)) (c__law_field_sum : Cd P w K mg base 1 "_law_field_sum" spFsum) (c__law_field_product : Cd P w K mg base 2 "_law_field_product" spFprod) (c__law_shuffled : Cd P w K mg base 1 "_law_shuffled" (spShuf K)) : Cd P w K mg base 3 "_law_two" (spTwo K) := by
  refine D.ok sc__law_two (fun vs H Q E h => ?_) (fun f cdv A outer s H vs Q E hr h => ?_)
  · obtain ⟨a, ns, rfl, _⟩ := h; rfl
  · obtain ⟨a, ns, rfl, hS, hl, q⟩ := h
    refine ⟨_, (pss_cons (ps_set (i := 2) sc__law_two.nd rfl (Or.inr rfl) (pe_ix (ix_listK (K := K) rfl) (pe_lst (pa_cons pe_int (pa_cons pe_int (pa_cons pe_int (pa_cons pe_int pa_nil))))) (pe_cd c__law_pick hr (by first | decide | omega) (by rfl) (pa_cons (pv 0) (pa_cons (pv 1) (pa_cons pe_int pa_nil)))) (fun _ _ => rfl)))
      (pss_cons (ps_set (i := 3) sc__law_two.nd rfl (Or.inl rfl) (pe_op op_add pe_int (pe_cd c__law_pick hr (by first | decide | omega) (by rfl) (pa_cons (pv 0) (pa_cons (pe_op op_add (pv 1) pe_int) (pa_cons (pe_op op_sub (pv 2) pe_int) pa_nil))))))
      (pss_cons (ps_set (i := 4) sc__law_two.nd rfl (Or.inl rfl) (pe_op op_add pe_int (pe_op op_mod (pe_callTy call_int1 (by rfl) B.int boot_int (pa_cons (pe_op op_add (pv 3) (pe_cd c__law_pick hr (by first | decide | omega) (by rfl) (pa_cons (pv 0) (pa_cons (pe_op op_add (pv 1) pe_int) (pa_cons (pe_op op_sub (pv 2) pe_int) pa_nil))))) pa_nil)) (pe_op op_sub (pv 2) pe_int))))
      (pss_cons (ps_set (i := 5) sc__law_two.nd rfl (Or.inl rfl) (pe_cd c__law_shuffled hr (by first | decide | omega) (by rfl) (pa_cons (pv 0) (pa_cons (pe_op op_add (pv 1) pe_int) (pa_cons (pv 2) pa_nil)))))
      (pss_cons (ps_set (i := 6) sc__law_two.nd rfl (Or.inl rfl) (pe_cd c__law_shuffled hr (by first | decide | omega) (by rfl) (pa_cons (pv 0) (pa_cons (pe_op op_add (pv 1) pe_int) (pa_cons (pv 2) pa_nil)))))
      (pss_cons (ps_set (i := 7) sc__law_two.nd rfl (Or.inl rfl) (pe_lst pa_nil))
      (pss_cons (ps_for PassesOwn.never rfl (pi_range1 (by rfl) B.range (pa_cons pe_int pa_nil)) (pg_name (i := 8) sc__law_two.nd rfl (Or.inl rfl)) (pss_cons (ps_set (i := 9) sc__law_two.nd rfl (Or.inr rfl) (pe_ix (ix_listK (K := K) rfl) (pe_lst (pa_cons (pv 3) (pa_cons (pv 4) pa_nil))) (pv 8) (fun _ _ => rfl)))
          (pss_cons (ps_set (i := 10) sc__law_two.nd rfl (Or.inr rfl) (pe_cd c__law_shuffled hr (by first | decide | omega) (by rfl) (pa_cons (pv 0) (pa_cons (pe_op op_add (pe_op op_add (pv 1) pe_int) (pe_op op_mul pe_int (pv 8))) (pa_cons (pv 2) pa_nil)))))
          (pss_cons (ps_set (i := 11) sc__law_two.nd rfl (Or.inl rfl) (pe_lst pa_nil))
          (pss_cons (ps_for PassesOwn.never rfl (pi_listK (K := K) rfl (pv 5)) (pg_name (i := 12) sc__law_two.nd rfl (Or.inr rfl)) (pss_cons (ps_setLc (i := 13) (own := [("c", 14)]) rfl sc__law_two.nd rfl rfl (sw_true rfl rfl rfl (by decide +kernel)) (pi_listK (K := K) rfl (pv 6)) (blkOk_by (own := [("c", 14)]) (N := ["numbers", "at", "n", "j", "k", "rows", "columns", "made", "turn", "times", "signs", "square", "r", "line", "c", "sign"]) (sc := defScope s__law_two) (by decide +kernel)) (fun _ _ _ _ _ => (pg_name (i := 14) sc__law_two.nd rfl (Or.inl rfl))) (fun _ _ _ _ _ => pts_nil) (fun _ _ _ _ _ => (pe_op op_mod (pe_callTy call_int1 (by rfl) B.int boot_int (pa_cons (pe_op op_add (pv 12) (pe_op op_mul (pv 9) (pv 14))) pa_nil)) (pv 2))))
              (Evl.pss_cut (ps_if (pt_cmpR op_eq (pv 2) pe_int (nomark _)) (pss_one (ps_setLc (i := 13) (own := [("c", 14)]) rfl sc__law_two.nd rfl rfl (sw_true rfl rfl rfl (by decide +kernel)) (pi_listK (K := K) rfl (pv 6)) (blkOk_by (own := [("c", 14)]) (N := ["numbers", "at", "n", "j", "k", "rows", "columns", "made", "turn", "times", "signs", "square", "r", "line", "c", "sign"]) (sc := defScope s__law_two) (by decide +kernel)) (fun _ _ _ _ _ => (pg_name (i := 14) sc__law_two.nd rfl (Or.inl rfl))) (fun _ _ _ _ _ => pts_nil) (fun _ _ _ _ _ => (pe_cd c__law_field_sum hr (by first | decide | omega) (by rfl) (pa_cons pe_int (pa_cons (pv 12) (pa_cons (pe_cd c__law_field_product hr (by first | decide | omega) (by rfl) (pa_cons pe_int (pa_cons (pv 9) (pa_cons (pv 14) pa_nil)))) pa_nil))))))) pss_nil)
              (pss_one (ps_expr (pe_bm PySem.F.plainAttrs_list PySem.F.slot_list_append PySem.F.type_list_append mt_append (pv 11) (pa_cons (pe_callTy (call_tupleF (K := K) rfl) (by rfl) B.tuple boot_tuple (pa_cons (pe_lc (own := [("sign", 15)]) rfl sc__law_two.nd (pi_listK (K := K) rfl (pv 13)) (blkOk_by (own := [("sign", 15)]) (N := ["numbers", "at", "n", "j", "k", "rows", "columns", "made", "turn", "times", "signs", "square", "r", "line", "c", "sign"]) (sc := defScope s__law_two) (by decide +kernel)) (fun _ _ _ _ _ => (pg_name (i := 15) sc__law_two.nd rfl (Or.inl rfl))) (fun _ _ _ _ _ => pts_nil) (fun _ _ _ _ _ => (pe_ix (ix_listK (K := K) rfl) (pv 10) (pv 15) (fun _ _ => rfl)))) pa_nil)) pa_nil)))))))
          (pss_one (ps_expr (pe_bm PySem.F.plainAttrs_list PySem.F.slot_list_append PySem.F.type_list_append mt_append (pv 7) (pa_cons (pe_callTy (call_tupleK (K := K) rfl) (by rfl) B.tuple boot_tuple (pa_cons (pv 11) pa_nil)) pa_nil)))))))))
      (pss_one (ps_ret (pv 7)))))))))), ?_⟩
    have pick : ∀ {σ : L2.St} {Hx : Hp} {t2 t3 : TE} {i : Nat} {m : Int} {E : XK}, Ex H Hx → σ[0]? = some (some (.ref a)) → Ev t2 σ Hx (.int (i : Int)) → Ev t3 σ Hx (.int m) → i < 60 → 0 < m → Ev (tCall (spPick K) [] E (tCons (tVar 0) (tCons t2 (tCons t3 tNil)))) σ Hx (.int (ns.getD i 0 % m)) := fun {σ Hx t2 t3 i m E} ex hσ h2 h3 hi hm =>
      ev_call (vs := [.ref a, .int (i : Int), .int m]) (ea_cons (ev_var hσ) (ea_cons h2 (ea_cons h3 ea_nil))) fun H4 e4 Q q E => ⟨a, ns, i, m, rfl, ex_l (ex.trans e4) hS, by omega, hm, q⟩
    obtain ⟨k0, hk0, hk0l⟩ := getL_mod (n := 4) (z := ns.getD 0 0) (by decide)
    obtain ⟨n, hn, hnk⟩ : ∃ n : Nat, oddN n ∧ (([3, 4, 5, 7] : List Int).map V.int)[k0]? = some (.int (n : Int)) := by
      rcases (show k0 = 0 ∨ k0 = 1 ∨ k0 = 2 ∨ k0 = 3 by omega) with rfl | rfl | rfl | rfl
      · exact ⟨3, .inl rfl, rfl⟩
      · exact ⟨4, .inr (.inl rfl), rfl⟩
      · exact ⟨5, .inr (.inr (.inl rfl)), rfl⟩
      · exact ⟨7, .inr (.inr (.inr rfl)), rfl⟩
    have hn37 : 3 ≤ n ∧ n ≤ 7 := by unfold oddN at hn; omega
    refine q_asg (v := .int (n : Int)) (ev_ixNew (j := k0) (el_lst (ea_cons ev_c (ea_cons ev_c (ea_cons ev_c (ea_cons ev_c ea_nil)))) (by show 4 ≤ 100000; decide)) (fun Hx ex => ev_is (pick (i := 0) (m := 4) ex rfl (ev_var rfl) ev_c (by decide) (by decide)) (congrArg V.int hk0)) hnk) fun H1 e1 => ?_
    obtain ⟨x1, hx1, hx1l⟩ := getL_mod (n := n - 1) (z := ns.getD 1 0) (by omega)
    obtain ⟨x2, hx2, hx2l⟩ := getL_mod (n := n - 2) (z := ns.getD 2 0) (by omega)
    have hn1 : ((n : Int) - 1) = ((n - 1 : Nat) : Int) := by omega
    have hn2 : ((n : Int) - 2) = ((n - 2 : Nat) : Int) := by omega
    obtain ⟨jj, hjj⟩ : ∃ jj : Nat, jj = 1 + x1 := ⟨_, rfl⟩
    obtain ⟨kk, hkk⟩ : ∃ kk : Nat, kk = 1 + (jj + x2) % (n - 1) := ⟨_, rfl⟩
    have hkl := Nat.mod_lt (jj + x2) (show 0 < n - 1 by omega)
    have hne : jj ≠ kk := by
      unfold oddN at hn
      rcases hn with rfl | rfl | rfl | rfl <;> omega
    refine q_asg (v := .int (jj : Int)) (ev_is (ev_op ev_c (pick (i := 1) (m := (n : Int) - 1) e1 rfl (ev_op (ev_var rfl) ev_c rv_I0) (ev_op (ev_var rfl) ev_c rv_I0) (by decide) (by omega)) rv_I0) (congrArg V.int (by rw [hn1, hx1]; omega))) fun H1b e1b => ?_
    have e11 := e1.trans e1b
    refine q_asg (v := .int (kk : Int)) (ev_is (ev_op ev_c (ev_op (ev_int (ea_cons (ev_op (ev_var rfl) (pick (i := 2) (m := (n : Int) - 2) e11 rfl (ev_op (ev_var rfl) ev_c rv_I0) (ev_op (ev_var rfl) ev_c rv_I0) (by decide) (by omega)) rv_I0) ea_nil)) (ev_op (ev_var rfl) ev_c rv_I0) (rv_I (by omega))) rv_I0) (congrArg V.int (by rw [hn1, hn2, hx2, hkk, Int.natCast_add, Int.natCast_emod, Int.natCast_add]; rfl))) fun H2 e2 => ?_
    have e02 := e11.trans e2
    obtain ⟨tm, htm0, htm1⟩ : ∃ tm : Nat → Nat, tm 0 = jj ∧ tm 1 = kk := ⟨fun t => if t = 0 then jj else kk, rfl, rfl⟩
    have htm : ∀ t, t < 2 → 1 ≤ tm t ∧ tm t < n := fun t ht => by
      rcases (show t = 0 ∨ t = 1 by omega) with rfl | rfl
      · rw [htm0]; omega
      · rw [htm1]; omega
    refine q_callA (ea_cons (ev_var rfl) (ea_cons (ev_op (ev_var rfl) ev_c rv_I0) (ea_cons (ev_var rfl) ea_nil))) fun H3 e3 => ⟨a, ns, 3, n, rfl, ex_l (e02.trans e3) hS, by omega, by omega, fun p1 H4 s1 _ e4 hp1 g1 => ?_⟩
    have e04 := (e02.trans e3).trans e4
    refine q_callA (ea_cons (ev_var rfl) (ea_cons (ev_op (ev_var rfl) ev_c rv_I0) (ea_cons (ev_var rfl) ea_nil))) fun H5 e5 => ⟨a, ns, 13, n, rfl, ex_l (e04.trans e5) hS, by omega, by omega, fun p2 H6 s2 _ e6 hp2 g2 => ?_⟩
    have e06 := (e04.trans e5).trans e6
    have l1 := g1.length_eq.trans (iota_len n)
    have l2 := g2.length_eq.trans (iota_len n)
    refine q_asgL (el_lst ea_nil (by decide)) fun mo H7 nm e7 hmo => ?_
    have hp1' := e7 _ _ ((e5.trans e6) _ _ hp1)
    have hp2' := e7 _ _ hp2
    have nm0 : H mo = none := fresh_back e06 nm
    -- all but the list of squares
    have eB : Ex H6 (rm1 H7 mo) := fun c o hc => rm1_of (fun z => by rw [z, nm] at hc; cases hc) (e7 c o hc)
    have b1 := eB _ _ ((e5.trans e6) _ _ hp1)
    have b2 := eB _ _ hp2
    have bS : SqL K (rm1 H7 mo) a (ns.map V.int) := ex_l (e06.trans eB) hS
    refine q_forW (gets_r1 (n := 2) ev_c (by omega)) walk_range (fun t σ' H' => ∃ (fam : List (List (List Int))) (us : List V) (y7 y8 y9 y10 y11 y12 : Option V), σ' = [some (.ref a), some (.int 0), some (.int (n : Int)), some (.int (jj : Int)), some (.int (kk : Int)), some (.ref p1), some (.ref p2), some (.ref mo), y7, y8, y9, y10, y11, y12, none, none] ∧ Ex (rm1 H7 mo) H' ∧ H' mo = some (.lst us) ∧ DpAll K (rm1 H' mo) us (fam.map (sqrD true true)) ∧ fam.length = t ∧ (∀ i, i < t → ∃ g : List Int, g.Perm (iota n) ∧ fam.getD i [] = ren n (famOf n ((tm i : Nat) : Int)) s1 s2 g) ∧ FrzF K (rm1 H' mo) us fam) ?_ ?_ ?_ ?_
    · intro H8 e8; exact ⟨[], [], _, _, _, _, _, _, rfl, (rm1_ex H7 mo).trans e8, e8 _ _ hmo, .nil, rfl, fun _ h => absurd h (Nat.not_lt_zero _), .nil⟩
    · intros; trivial
    · rintro t x σ' H' H8 ht1 ⟨fam, us, y7, y8, y9, y10, y11, y12, rfl, ex, hmo', hus, hfl, hfL, hfz⟩ ⟨rfl, rfl⟩
      have ht : t < 2 := ht1
      have htt := htm t ht
      have hz : (0 : Int) + (t : Int) = (t : Int) := Int.zero_add _
      show gName 8 (.int (0 + (t : Int))) _ _ _
      rw [hz]
      refine gN ?_
      have hul : us.length = t := by rw [dpAll_len _ _ hus, List.length_map, hfl]
      refine q_asg (v := .int ((tm t : Nat) : Int)) (ev_ixNew (xs := [.int (jj : Int), .int (kk : Int)]) (j := t) (el_lst (ea_cons (ev_var rfl) (ea_cons (ev_var rfl) ea_nil)) (by show 2 ≤ 100000; decide)) (fun Hx ex => ev_var rfl) (by
        rcases (show t = 0 ∨ t = 1 by omega) with rfl | rfl
        · rw [htm0]; rfl
        · rw [htm1]; rfl)) fun H9 e9 => ?_
      have ex9 := ex.trans e9
      refine q_callA (vs := [.ref a, .int ((23 + 10 * t : Nat) : Int), .int (n : Int)]) (ea_cons (ev_var rfl) (ea_cons (ev_is (ev_op (ev_op (ev_var rfl) ev_c rv_I0) (ev_op ev_c (ev_var rfl) (rv_I (.inl ⟨by decide, by decide⟩))) rv_I0) (congrArg V.int (by omega))) (ea_cons (ev_var rfl) ea_nil))) fun H10 e10 => ⟨a, ns, 23 + 10 * t, n, rfl, ex_l (ex9.trans e10) bS, by omega, by omega, fun p3 H11 s3 n3 e11 hp3 g3 => ?_⟩
      have l3 := g3.length_eq.trans (iota_len n)
      refine q_asgL (el_lst ea_nil (by decide)) fun so H12 nso e12 hso => ?_
      have e812 : Ex H8 H12 := ((e9.trans e10).trans e11).trans e12
      have hmo12 := e812 _ _ hmo'
      have hne : mo ≠ so := ne_of_none (((e9.trans e10).trans e11) _ _ hmo') nso
      have e711 : Ex (rm1 H7 mo) H11 := (ex9.trans e10).trans e11
      -- all but both lists
      have e7C : Ex (rm1 H7 mo) (rm2 H12 mo so) := fun c o hc => rm2_of (rm2_at hc).1 (fun z => by have := e711 c o hc; rw [z, nso] at this; cases this) (e12 _ _ (e711 c o hc))
      have c1 := e7C _ _ b1
      have c2 := e7C _ _ b2
      have c3 : rm2 H12 mo so p3 = some (.lst (s3.map V.int)) := rm2_of (fun z => by rw [z] at n3; cases (n3.symm.trans ((e9.trans e10) _ _ hmo'))) (fun z => by rw [z, nso] at hp3; cases hp3) (e12 _ _ hp3)
      have husC : DpAll K (rm2 H12 mo so) us (fam.map (sqrD true true)) := dpAll_mono (rm2_of1 e812 (fresh_back ((e9.trans e10).trans e11) nso)) _ _ hus
      have hfzC : FrzF K (rm2 H12 mo so) us fam := hfz.mono (rm2_of1 e812 (fresh_back ((e9.trans e10).trans e11) nso))
      generalize hB : rm2 H12 mo so = HB at *
      have hBex : Ex HB H12 := by rw [← hB]; exact rm2_ex _ _ _
      have hBmo : HB mo = none := by rw [← hB]; unfold rm2; rw [if_pos (.inl rfl)]
      have hBso : HB so = none := by rw [← hB]; unfold rm2; rw [if_pos (.inr rfl)]
      have LB : Lat n (famOf n ((tm t : Nat) : Int)) := fam_latn hn htt.1 htt.2
      -- the row that comes of a row of the plain square
      let rowF : Int → List Int := fun r => s2.map fun c => s3.getD (cel (famOf n ((tm t : Nat) : Int)) r.toNat c.toNat).toNat 0
      refine q_forW (gets_list (ev_var rfl) (sq_of (hBex _ _ c1))) (walk_list (xs := s1.map V.int)) (fun k σ' H' => ∃ (ts : List V) (y11 y12 : Option V), σ' = [some (.ref a), some (.int 0), some (.int (n : Int)), some (.int (jj : Int)), some (.int (kk : Int)), some (.ref p1), some (.ref p2), some (.ref mo), some (.int (t : Int)), some (.int ((tm t : Nat) : Int)), some (.ref p3), some (.ref so), y11, y12, none, none] ∧ Ex HB H' ∧ H' mo = some (.lst us) ∧ H' so = some (.lst ts) ∧ DpAll K (rm2 H' mo so) ts (((s1.take k).map rowF).map (rowD true)) ∧ ts.length = k ∧ ∀ u ∈ ts, Frz (rm2 H' mo so) u) ?_ ?_ ?_ ?_
      · intro H13 e13
        exact ⟨[], _, _, rfl, hBex.trans e13, e13 _ _ hmo12, e13 _ _ hso, .nil, rfl, fun _ h => (by cases h)⟩
      · rintro k σ' H' _ ⟨_, _, _, rfl, ex, _⟩; exact sq_of (ex _ _ c1)
      · rintro k x σ' H'' H13 hk1 ⟨ts, y11, y12, rfl, ex13, hm13, hs13, hts, htl, htz⟩ ⟨rfl, hx⟩
        obtain ⟨r, hr, rfl⟩ := ints_get hx
        have hkn : k < n := by rw [List.length_map] at hk1; omega
        have hrr : 0 ≤ r ∧ r < n := iota_mem.mp (g1.mem_iff.mp (List.mem_of_getElem? hr))
        refine gN ?_
        refine q_asgL (xs := (s2.map fun c => (r + ((tm t : Nat) : Int) * c) % (n : Int)).map V.int) (el_mapI (fun c => (r + ((tm t : Nat) : Int) * c) % (n : Int)) (ev_var rfl) (sq_of (ex13 _ _ c2)) (by omega) (fun _ => rfl) fun z H14 hz e14 => ?_) fun lo H14 nlo e14 hlo => ?_
        · exact ev_op (ev_int (ea_cons (ev_op (ev_var rfl) (ev_op (ev_var rfl) (ev_var rfl) (rv_I (.inl ⟨by omega, by omega⟩))) rv_I0) ea_nil)) (ev_var rfl) (rv_I (by omega))
        have ex14 := ex13.trans e14
        refine q_cut (M := fun σ2 H2 => ∃ (lo : Addr), σ2 = [some (.ref a), some (.int 0), some (.int (n : Int)), some (.int (jj : Int)), some (.int (kk : Int)), some (.ref p1), some (.ref p2), some (.ref mo), some (.int (t : Int)), some (.int ((tm t : Nat) : Int)), some (.ref p3), some (.ref so), some (.int r), some (.ref lo), none, none] ∧ Ex H13 H2 ∧ H2 lo = some (.lst ((s2.map fun c => cel (famOf n ((tm t : Nat) : Int)) r.toNat c.toNat).map V.int))) ?_ ?_
        · refine s_when (et_test (ev_op (ev_var rfl) ev_c (rv_eq rfl))) (fun hb H15 e15 => ?_) (fun hb H15 e15 => ?_)
          · have hn4 : n = 4 := by have := V.int.inj (of_decide_eq_true hb); omega
            refine s_asgL (xs := (s2.map fun c => fs2 r (fp4 ((tm t : Nat) : Int) c)).map V.int) (el_mapI (fun c => fs2 r (fp4 ((tm t : Nat) : Int) c)) (ev_var rfl) (sq_of ((ex14.trans e15) _ _ c2)) (by omega) (fun _ => rfl) fun z H16 hz e16 => ?_) fun lo2 H16 nl2 e16 hl2 => ?_
            · have hz2 := iota_mem.mp (g2.mem_iff.mp hz)
              exact ev_call (vs := [.int 2, .int _, .int _]) (ea_cons ev_c (ea_cons (ev_var rfl) (ea_cons (ev_call (vs := [.int 4, .int _, .int _]) (ea_cons ev_c (ea_cons (ev_var rfl) (ea_cons (ev_var rfl) ea_nil))) fun H4 e4 Q q E => ⟨_, _, rfl, by omega, by omega, q⟩) ea_nil))) fun H4 e4 Q q E => ⟨_, _, rfl, q⟩
            · refine ⟨lo2, rfl, (e14.trans e15).trans e16, ?_⟩
              rw [hl2]
              congr 3
              refine List.map_congr_left fun c hc => ?_
              have hc2 := iota_mem.mp (g2.mem_iff.mp hc)
              subst hn4
              unfold famOf
              rw [if_pos rfl, mk_cel (by omega) (by omega), Int.toNat_of_nonneg hrr.1, Int.toNat_of_nonneg hc2.1]
          · have hn4 : n ≠ 4 := fun z => of_decide_eq_false hb (by rw [z]; rfl)
            refine ⟨lo, rfl, e14.trans e15, ?_⟩
            rw [e15 _ _ hlo]
            congr 3
            refine List.map_congr_left fun c hc => ?_
            have hc2 := iota_mem.mp (g2.mem_iff.mp hc)
            unfold famOf
            rw [if_neg hn4, mk_cel (by omega) (by omega), Int.toNat_of_nonneg hrr.1, Int.toNat_of_nonneg hc2.1]
        · rintro σ2 H15 ⟨lo2, rfl, e15, hlo2⟩
          refine s_appF (e15 _ _ hs13) (ev_var rfl) (ef_tupleN (el_mapI (ns := s2.map fun c => cel (famOf n ((tm t : Nat) : Int)) r.toNat c.toNat) (fun x => s3.getD x.toNat 0) (ev_var rfl) (sq_of hlo2) (by rw [List.length_map]; omega) (fun _ => rfl) fun z H16 hz e16 => ?_)) (by rw [htl]; omega) fun p ob H16 np e16 hpc hpd hp => ?_
          · obtain ⟨c, hc, rfl⟩ := List.mem_map.mp hz
            have hc2 := iota_mem.mp (g2.mem_iff.mp hc)
            have hcin := LB.cin (r := r.toNat) (c := c.toNat) (by omega) (by omega)
            exact ev_numL (ev_var rfl) (sq_of (e16 _ _ (e15 _ _ (ex13 _ _ c3)))) (ev_natI (ev_var rfl) hcin.1) (by omega)
          · have e1316 := e15.trans e16
            have hpm : p ≠ mo := fun z => by rw [z, e15 _ _ hm13] at np; cases np
            have hps : p ≠ so := fun z => by rw [z, e15 _ _ hs13] at np; cases np
            have eU : Ex (rm2 H13 mo so) (rm2 (upd H16 so (.lst (ts ++ [.ref p]))) mo so) := rm2_fold (rm2_updB ((rm2_ex H13 mo so).trans e1316))
            refine ⟨ts ++ [.ref p], _, _, rfl, fun c o hc => ?_, by rw [upd_ne hne]; exact e1316 _ _ hm13, upd_same, ?_, by rw [List.length_append, htl]; rfl, ?_⟩
            · rw [upd_ne (fun z => by rw [z, hBso] at hc; cases hc)]; exact e1316 _ _ (ex13 c o hc)
            · rw [take_at hr, List.map_append]
              refine snocR (dpAll_mono eU _ _ hts) (.tup (frz_sq (rm2_of hpm hps (by rw [upd_ne hps, hp]))) ?_)
              have hrr2 : rowF r = (s2.map fun c => cel (famOf n ((tm t : Nat) : Int)) r.toNat c.toNat).map fun x => s3.getD x.toNat 0 := by rw [List.map_map]; rfl
              rw [hrr2]
              exact dpAll_ints _
            · intro u hu
              rcases List.mem_append.mp hu with hu | hu
              · exact (htz u hu).mono eU
              · rw [List.mem_singleton.mp hu]
                exact ⟨p, ob, _, rfl, rm2_of hpm hps (by rw [upd_ne hps, hp]), hpc, hpd⟩
      · rintro σ' H13 ⟨ts, y11', y12', rfl, ex13, hm13, hs13, hts, htl, htz⟩
        have hrows : (s1.take ((s1.map V.int).length)).map rowF = ren n (famOf n ((tm t : Nat) : Int)) s1 s2 s3 := by
          rw [List.length_map, List.take_length]
          unfold ren mkRows
          rw [← range_map_get s1 n l1 rowF]
          refine List.map_congr_left fun r _ => ?_
          exact (range_map_get s2 n l2 (fun c => s3.getD (cel (famOf n ((tm t : Nat) : Int)) (s1.getD r 0).toNat c.toNat).toNat 0)).symm
        rw [hrows] at hts
        have htl2 : ts.length = n := by rw [htl, List.length_map, l1]
        refine s_appU hm13 (ev_var rfl) (eu_tuple (ev_var rfl) (sq_of hs13)) (by rw [hul]; omega) fun p H14 np e14 hp => ?_
        have hpm : p ≠ mo := fun z => by rw [z, hm13] at np; cases np
        have eM : Ex (rm2 H13 mo so) (rm1 (upd H14 mo (.lst (us ++ [.ref p]))) mo) := fun c o hc => by
          obtain ⟨h1, h2, h3⟩ := rm2_at hc
          exact rm1_of h1 (by rw [upd_ne h1]; exact e14 c o h3)
        have eHB : Ex HB (rm1 (upd H14 mo (.lst (us ++ [.ref p]))) mo) := fun c o hc => rm1_of (fun z => by rw [z, hBmo] at hc; cases hc) (by rw [upd_ne (fun z => by rw [z, hBmo] at hc; cases hc)]; exact e14 _ _ (ex13 c o hc))
        refine ⟨fam ++ [ren n (famOf n ((tm t : Nat) : Int)) s1 s2 s3], us ++ [.ref p], _, _, _, _, _, _, rfl, (e7C.trans eHB).trans (rm1_ex _ _), upd_same, snocD (dpAll_mono eHB _ _ husC) (.tup (st_of (rm1_of hpm (by rw [upd_ne hpm, hp]))) (dpAll_mono eM _ _ hts)), by rw [List.length_append, hfl]; rfl, fun i hi => ?_, (hfzC.mono eHB).snoc ⟨p, ts, rfl, st_of (rm1_of hpm (by rw [upd_ne hpm, hp])), dpAll_mono eM _ _ hts, fun r hr => (htz r hr).mono eM⟩⟩
        rw [List.getD_eq_getElem?_getD]
        by_cases hi2 : i < t
        · rw [List.getElem?_append_left (by omega), ← List.getD_eq_getElem?_getD]
          exact hfL i hi2
        · have : i = t := by omega
          subst this
          rw [List.getElem?_append_right (by omega), hfl, Nat.sub_self]
          exact ⟨s3, g3, rfl⟩
    · rintro σ' H8 ⟨fam, us, y7, y8, y9, y10, y11, y12, rfl, ex, hmo', hus, hfl, hfL, hfz⟩
      have hfl2 : fam.length = 2 := hfl
      obtain ⟨P, R, rfl⟩ : ∃ P R, fam = [P, R] := by
        match fam, hfl2 with
        | [P, R], _ => exact ⟨P, R, rfl⟩
      obtain ⟨ga, hga, hP⟩ := hfL 0 (by show 0 < 2; decide)
      obtain ⟨gb, hgb, hR⟩ := hfL 1 (by show 1 < 2; decide)
      have hP2 : P = ren n (famOf n ((tm 0 : Nat) : Int)) s1 s2 ga := hP
      have hR2 : R = ren n (famOf n ((tm 1 : Nat) : Int)) s1 s2 gb := hR
      have t0 := htm 0 (by decide)
      have t1 := htm 1 (by decide)
      have LP := fam_latn hn t0.1 t0.2
      have LR := fam_latn hn t1.1 t1.2
      refine s_ret (ev_var rfl) fun H9 e9 => q n P R mo us H9 hn (by rw [hP2]; exact lat_ren LP g1 g2 hga) (by rw [hR2]; exact lat_ren LR g1 g2 hgb) (by rw [hP2, hR2]; exact ren_norep LP LR (fam_norep hn t0 t1 (by rw [htm0, htm1]; exact hne)) g1 g2 hga hgb) nm0 ?_ (e9 _ _ hmo') (dpAll_mono (rm1_ups e9) _ _ hus) (hfz.mono (rm1_ups e9))
      exact ((e06.trans eB).trans ex).trans e9

end
end My
namespace My
open PySem PySem.Spec PyProof.Rows L2 Evl Mi Mm
abbrev s_mate_by : Stmt := top 15
theorem sc_mate_by : FnScope ["rows", "parts", "kept", "size", "columns", "r"] ["rows", "parts"] (defScope s_mate_by) := ⟨rfl, rfl, rfl, by decide +kernel, rfl, by decide +kernel, by decide +kernel⟩
section
variable {P : Program} {w : World} {K : PySem.W.Frag} {mg : Str → Option Value} {base : Heap}
theorem s_retB0 {σ : L2.St} {H : Hp} {D : Ends} {sp : Sp} {E : XK} {ts : TA} {vs : List V} (h : EvA ts σ H vs) (k : ∀ H1, Ex H H1 → sp (vs ++ []) H1 D.rt E) : tRet (tCall sp [] E ts) D σ H := h H (Ex.refl H) _ k
/-- parts: a list of tuples of ints -/
structure Prt (K : PySem.W.Frag) (H : Hp) (pa : Addr) (us : List V) (P : List (List Int)) : Prop where
  sq : SqL K H pa us
  ln : us.length = P.length
  at_ : ∀ (a : Nat) (u : V), us[a]? = some u → ∃ q, u = .ref q ∧ SqT K H q ((P.getD a []).map V.int)
  sh : ∀ p ∈ P, p.length < 64
  few : P.length < 64
theorem Prt.up {K : PySem.W.Frag} {H H' : Hp} {pa : Addr} {us : List V} {P : List (List Int)} (h : Prt K H pa us P) (e : Ex H H') : Prt K H' pa us P := ⟨ex_l e h.sq, h.ln, fun a u hu => by
  obtain ⟨q, h1, h2⟩ := h.at_ a u hu
  exact ⟨q, h1, ex_t e h2⟩, h.sh, h.few⟩
theorem prt_of {K : PySem.W.Frag} {H : Hp} {u : V} {P : List (List Int)} (h : Dp K H u (sqrD false true P)) (h1 : ∀ p ∈ P, p.length < 64) (h2 : P.length < 64) : ∃ pa us, u = .ref pa ∧ Prt K H pa us P := by
  obtain ⟨pa, rfl⟩ := dp_refS (t := false) h
  obtain ⟨us, hu, hd⟩ := dp_lstE h
  have hl := dpAll_len _ _ hd
  rw [List.length_map] at hl
  refine ⟨pa, us, rfl, hu, hl, fun a u ha => ?_, h1, h2⟩
  obtain ⟨d, k1, k2⟩ := dpAll_get _ _ _ _ hd ha
  have haP : a < P.length := by rw [← hl]; exact (List.getElem?_eq_some_iff.mp ha).1
  rw [List.getElem?_map, List.getElem?_eq_getElem haP] at k1
  cases k1
  obtain ⟨q, rfl, hq⟩ := dp_rowS k2
  refine ⟨q, rfl, ?_⟩
  rw [List.getD_eq_getElem?_getD, List.getElem?_eq_getElem haP]
  exact hq
theorem getD_nil {α : Type} {l : List (List α)} {i : Nat} {x : List α} (h : l[i]? = some x) : l.getD i [] = x := by rw [List.getD_eq_getElem?_getD, h]; rfl
def colAt (P : List (List Int)) (r : Nat) : List Int := P.map fun p => p.getD r 0
def partsOk (n : Nat) (rows P : List (List Int)) : Prop := P.length = n ∧ (∀ p ∈ P, trB n rows p = true) ∧ ∀ r, r < n → (colAt P r).Nodup
def toN (P : List (List Int)) : List (List Nat) := P.map fun p => p.map Int.toNat
theorem trB_perm {n : Nat} {rows : List (List Int)} {p : List Int} (h : trB n rows p = true) : p.Perm (iota n) := by
  unfold trB at h
  rw [Bool.and_eq_true] at h
  exact List.isPerm_iff.mp h.1
theorem natI_toNat {n : Nat} {p : List Int} (h : p.Perm (iota n)) : natI (p.map Int.toNat) = p := by
  unfold natI
  rw [List.map_map]
  refine Eq.trans (List.map_congr_left fun x hx => ?_) (List.map_id p)
  have := iota_mem.mp (h.mem_iff.mp hx)
  show ((x.toNat : Nat) : Int) = x
  omega
theorem sc_few {n : Nat} (h : n < 64) : n + 1 < scanBound := Nat.lt_of_lt_of_le (show n + 1 < 100 by omega) (by decide)
def spMB (K : PySem.W.Frag) (tp Cq : Addr) : Sp := fun vs H Q E => ∃ (v : V) (n : Nat) (rows : List (List Int)) (o i : Bool) (u : V) (P : List (List Int)), vs = [v, u] ∧ Dp K H v (sqrD o i rows) ∧ Lat n rows ∧ 1 ≤ n ∧ n ≤ 12 ∧ H tp = some (tabO tp) ∧ Dp K H u (sqrD false true P) ∧ (∀ p ∈ P, p.length < 64) ∧ P.length < 64 ∧
  (partsOk n rows P → RetP K (sqrD true true (numR n (toN P))) H Q) ∧ (¬partsOk n rows P → ∀ H1, Ex H H1 → E (.ref Cq) none H1)
set_option maxHeartbeats 2000000 in
theorem ok_mate_by {tp Ci Cq : Addr} (D : Df K mg "mate_by" s_mate_by ["rows", "parts"]) (B : Bt mg) (E_InvalidQuestion : ErrC K mg "InvalidQuestion" Cq) (c_kept_rows : Ce P w K mg base 3 "kept_rows" (spSqr K tp Ci)) (c_is_transversal_of : Cd P w K mg base 2 "is_transversal_of" (spTrO K tp)) (c_numbered : Cd P w K mg base 1 "numbered" (spNm K)) : Ce P w K mg base 4 "mate_by" (spMB K tp Cq) := by
  refine D.okX sc_mate_by (fun vs H Q E h => ?_) (fun f cdv A outer s H vs Q E hr h => ?_)
  · obtain ⟨v, _, _, _, _, u, _, rfl, _⟩ := h; rfl
  · obtain ⟨v, n, rows, o, i, u, P, rfl, hd, L, h1, h12, hT, hDu, hsh, hfew, q, qx⟩ := h
    obtain ⟨pa, qs, rfl, hP⟩ := prt_of hDu hsh hfew
    refine ⟨_, (pss_cons (ps_set (i := 2) sc_mate_by.nd rfl (Or.inl rfl) (pe_ce c_kept_rows hr (by first | decide | omega) (by rfl) (takes_of rfl rfl rfl rfl) (pa_cons (pv 0) pa_nil)))
      (pss_cons (ps_set (i := 3) sc_mate_by.nd rfl (Or.inl rfl) (pe_callB (call_lenK (K := K) rfl) (by rfl) B.len PySem.boot_len (pa_cons (pv 2) pa_nil)))
      (pss_cons (ps_if (pt_cmpR op_ne (pe_callB (call_lenK (K := K) rfl) (by rfl) B.len PySem.boot_len (pa_cons (pv 1) pa_nil)) (pv 3) (nomark _)) (pss_one (ps_raiseC rfl (takes_of rfl rfl rfl rfl) E_InvalidQuestion (by rfl))) pss_nil)
      (pss_cons (ps_for (passes_of rfl) rfl (pi_listK (K := K) rfl (pv 1)) (pg_name (i := 4) sc_mate_by.nd rfl (Or.inl rfl)) (pss_one (ps_if (pt_not (pt_val (pe_cd c_is_transversal_of hr (by first | decide | omega) (by rfl) (pa_cons (pv 2) (pa_cons (pv 4) pa_nil))))) (pss_one (ps_raiseC rfl (takes_of rfl rfl rfl rfl) E_InvalidQuestion (by rfl))) pss_nil)))
      (pss_cons (ps_for (passes_of rfl) rfl (pi_range1 (by rfl) B.range (pa_cons (pv 3) pa_nil)) (pg_name (i := 5) sc_mate_by.nd rfl (Or.inr rfl)) (pss_one (ps_if (pt_cmpR op_lt (pe_callB call_lenSt (by rfl) B.len PySem.boot_len (pa_cons (pe_scI (own := [("columns", 4)]) rfl sc_mate_by.nd (pi_listK (K := K) rfl (pv 1)) (blkOk_by (own := [("columns", 4)]) (N := ["rows", "parts", "kept", "size", "columns", "r"]) (sc := defScope s_mate_by) (by decide +kernel)) (fun _ _ _ _ _ => (pg_name (i := 4) sc_mate_by.nd rfl (Or.inl rfl))) (fun _ _ _ _ _ => (pe_ix (ix_tupK (K := K) rfl) (pv 4) (pv 5) (fun _ _ => rfl)))) pa_nil)) (pv 3) (nomark _)) (pss_one (ps_raiseC rfl (takes_of rfl rfl rfl rfl) E_InvalidQuestion (by rfl))) pss_nil)))
      (pss_one (ps_ret (pe_cd c_numbered hr (by first | decide | omega) (by rfl) (pa_cons (pv 1) pa_nil))))))))), ?_⟩
    refine q_asgD (kept_of rfl hd L h1 h12 hT) fun kv H1 e1 hk => ?_
    refine q_asg (v := .int (n : Int)) (ev_is (ev_lenD (t := true) (evd_of (ev_var rfl) hk)) (by rw [List.length_map, L.len])) fun H2 e2 => ?_
    have e12 := e1.trans e2
    have hk2 := dp_mono e2 _ _ hk
    have hql : qs.length = P.length := hP.ln
    refine q_when (et_test (ev_op (ev_is (ev_lenL (ev_var rfl) (.inl (ex_l e12 hP.sq))) (by rw [hql])) (ev_var rfl) (rv_ne rfl))) (fun hb H3 e3 => ?_) (fun hb H3 e3 => ?_)
    · refine qx (fun z => ?_) H3 (e12.trans e3)
      rw [z.1, decide_eq_true rfl] at hb
      cases hb
    have hPn : P.length = n := by
      have h5 : decide (V.int (P.length : Int) = V.int (n : Int)) = true := by simpa using hb
      have h6 := V.int.inj (of_decide_eq_true h5)
      omega
    have e13 := e12.trans e3
    refine q_forW (gets_list (ev_var rfl) (ex_l e13 hP.sq)) (walk_list (xs := qs)) (fun i σ' H' => ∃ y, σ' = [some v, some (.ref pa), some kv, some (.int (n : Int)), y, none] ∧ Ex H3 H' ∧ ∀ (j : Nat) (p : List Int), j < i → P[j]? = some p → trB n rows p = true) ?_ ?_ ?_ ?_
    · intro H4 e4; exact ⟨none, rfl, e4, fun j p h => absurd h (Nat.not_lt_zero _)⟩
    · rintro i σ' H' _ ⟨y, rfl, e, _⟩; exact ex_l (e13.trans e) hP.sq
    · rintro i x σ' H' H4 hi ⟨y, rfl, e, hall⟩ ⟨rfl, hx⟩
      have hiP : i < P.length := by rw [← hP.ln]; exact hi
      obtain ⟨qk, rfl, hq⟩ := (hP.up (e13.trans e)).at_ i _ hx
      have hPi := List.getElem?_eq_getElem hiP
      rw [getD_nil hPi] at hq
      unfold gName; dsimp only [List.set]
      refine s_when (et_not (a := trB n rows (P[i]'hiP)) (et_B (ev_call (vs := [kv, .ref qk]) (ea_cons (ev_var rfl) (ea_cons (ev_var rfl) ea_nil)) fun H5 e5 Q q E => ⟨_, _, n, rows, true, P[i], rfl, dp_mono (e3.trans (e.trans e5)) _ _ hk2, .tup (ex_t e5 hq) (dpAll_ints _), L, h1, h12, hP.sh _ (List.getElem_mem _), (e13.trans (e.trans e5)) tp _ hT, q⟩))) (fun hb H5 e5 => ?_) (fun hb H5 e5 => ?_)
      · refine qx (fun z => ?_) H5 (e13.trans (e.trans e5))
        rw [z.2.1 _ (List.getElem_mem hiP)] at hb
        cases hb
      · refine ⟨_, rfl, e.trans e5, fun j p hj hp => ?_⟩
        rcases Nat.lt_or_ge j i with h | h
        · exact hall j p h hp
        · obtain rfl : j = i := by omega
          rw [hPi] at hp; cases hp
          simpa using hb
    · rintro σ' H4 ⟨y, rfl, e4, hall⟩
      have htr : ∀ p ∈ P, trB n rows p = true := fun p hp => by
        obtain ⟨j, hj, rfl⟩ := List.getElem_of_mem hp
        exact hall j _ (by rw [hql]; exact hj) (List.getElem?_eq_getElem hj)
      have hpl : ∀ p ∈ P, p.length = n := fun p hp => (trB_perm (htr p hp)).length_eq.trans (iota_len n)
      have e14 := e13.trans e4
      refine q_forW (gets_r1 (n := (n : Int)) (ev_var rfl) (by omega)) walk_range (fun i σ' H' => ∃ y z, σ' = [some v, some (.ref pa), some kv, some (.int (n : Int)), y, z] ∧ Ex H4 H' ∧ ∀ r, r < i → (colAt P r).Nodup) ?_ ?_ ?_ ?_
      · intro H5 e5; exact ⟨_, none, rfl, e5, fun r h => absurd h (Nat.not_lt_zero _)⟩
      · intros; trivial
      · rintro r x σ' H' H5 hi ⟨y, z, rfl, e, hall2⟩ ⟨rfl, rfl⟩
        have hr : r < n := by have : r < ((n : Int)).toNat := hi; omega
        show gName 5 (.int (0 + (r : Int))) _ _ _
        rw [Int.zero_add]
        unfold gName; dsimp only [List.set]
        have hP5 := hP.up (e14.trans e)
        have hcl : (colAt P r).length = n := by unfold colAt; rw [List.length_map, hPn]
        refine s_when (b := decide (((cntD (colAt P r) : Nat) : Int) < (n : Int))) (et_test (ev_op (ev_lenSc (K := K) (xs := qs) (cs := colAt P r) (ev_var rfl) hP5.sq (by rw [hcl, hql, hPn]) (by rw [hql]; exact sc_few hP.few) (fun _ => rfl) fun i x c H6 e6 hx hc => ?_) (ev_var rfl) rv_I0)) (fun hb H6 e6 => ?_) (fun hb H6 e6 => ?_)
        · have hiP : i < P.length := by rw [← hP.ln]; exact (List.getElem?_eq_some_iff.mp hx).1
          have hPi := List.getElem?_eq_getElem hiP
          obtain ⟨qk, rfl, hq⟩ := (hP5.up e6).at_ i _ hx
          rw [getD_nil hPi] at hq
          unfold colAt at hc
          rw [List.getElem?_map, hPi] at hc
          cases hc
          exact ev_op (ev_var rfl) (ev_var rfl) (rv_ixTn hq (ints_at (getD_at (by rw [hpl _ (List.getElem_mem _)]; exact hr))))
        · refine qx (fun z => ?_) H6 (e14.trans (e.trans e6))
          have h5 := of_decide_eq_true hb
          rw [cntD_nodup (z.2.2 r hr), hcl] at h5
          omega
        · refine ⟨_, _, rfl, e.trans e6, fun s hs => ?_⟩
          rcases Nat.lt_or_ge s r with h | h
          · exact hall2 s h
          · obtain rfl : s = r := by omega
            refine Classical.byContradiction fun hn => ?_
            have h5 := cntD_dup hn
            have h6 := of_decide_eq_false hb
            rw [hcl] at h5
            omega
      · rintro σ' H5 ⟨y, z, rfl, e, hall2⟩
        have hall3 : ∀ r, r < n → (colAt P r).Nodup := fun r hr => hall2 r (by show r < ((n : Int)).toNat; omega)
        have hP5 := hP.up (e14.trans e)
        refine s_retB0 (ea_cons (ev_var rfl) ea_nil) fun H6 e6 => ⟨pa, qs, n, toN P, rfl, ex_l e6 hP5.sq, by unfold toN; rw [List.length_map, hPn], by rw [hP.ln, hPn], fun a q2 hq2 => ?_, fun p hp => ?_, h1, h12, fun u H7 e7 hu => q ⟨hPn, htr, hall3⟩ u H7 ((e14.trans e).trans (e6.trans e7)) hu⟩
        · have haP : a < P.length := by rw [← hP.ln]; exact (List.getElem?_eq_some_iff.mp hq2).1
          obtain ⟨qk, rfl, hq⟩ := (hP5.up e6).at_ a q2 hq2
          rw [getD_nil (List.getElem?_eq_getElem haP)] at hq
          have hg : (toN P).getD a [] = (P[a]'haP).map Int.toNat := by
            unfold toN
            exact getD_nil (by rw [List.getElem?_map, List.getElem?_eq_getElem haP]; rfl)
          rw [hg, natI_toNat (trB_perm (htr _ (List.getElem_mem haP)))]
          exact ⟨qk, rfl, hq⟩
        · unfold toN at hp
          obtain ⟨p0, hp0, rfl⟩ := List.mem_map.mp hp
          refine ⟨by rw [List.length_map]; exact hpl p0 hp0, fun x hx => ?_⟩
          obtain ⟨y0, hy0, rfl⟩ := List.mem_map.mp hx
          have := iota_mem.mp ((trB_perm (htr p0 hp0)).mem_iff.mp hy0)
          omega

end
end My
namespace My
open PySem PySem.Spec PyProof.Rows L2 Evl Mi Mm
abbrev s__law_is_parting : Stmt := top 27
theorem sc__law_is_parting : FnScope ["square", "parts", "n", "cells", "columns", "r"] ["square", "parts"] (defScope s__law_is_parting) := ⟨rfl, rfl, rfl, by decide +kernel, rfl, by decide +kernel, by decide +kernel⟩
section
variable {P : Program} {w : World} {K : PySem.W.Frag} {mg : Str → Option Value} {base : Heap}
theorem s_asgCat {σ : L2.St} {H : Hp} {D : Ends} {ta te : TE} {i : Nat} {ca : Addr} {xs : List V} (G : List V → Hp → Prop) (ha : Ev ta σ H (.ref ca)) (hc : H ca = some (.lst xs)) (hb : ∀ H1, Ex H H1 → ∀ Q : VK, (∀ o zs H2, Ex H1 H2 → H2 o = some (.lst zs) → G zs H2 → Q (.ref o) H2) → te σ H1 Q)
    (hz : ∀ zs H2, G zs H2 → xs.length + zs.length ≤ 100000) (hm : ∀ zs H1 H2, Ex H1 H2 → G zs H1 → G zs H2) (k : ∀ p zs H1, Ex H H1 → G zs H1 → H1 p = some (.lst (xs ++ zs)) → D.nx (σ.set i (some (.ref p))) H1) : tAsg (tOp rCat ta te) (gName i) D σ H :=
  ha H (Ex.refl H) _ fun H1 e1 => hb H1 e1 _ fun o zs H2 e2 ho g => ⟨ca, o, xs, zs, rfl, rfl, e2 ca _ (e1 ca _ hc), ho, sz_of (hz zs H2 g), fun p np => k p zs _ ((e1.trans e2).trans (Ex.new np)) (hm _ _ _ (Ex.new np) g) upd_same⟩
def rowC (n : Nat) (p : List Int) : List (List Int) := (List.range n).map fun r => [((r : Nat) : Int), p.getD r 0]
def clsOf (n : Nat) (P : List (List Int)) : List (List Int) := (P.map (rowC n)).flatten
theorem rowC_len (n : Nat) (p : List Int) : (rowC n p).length = n := by unfold rowC; rw [List.length_map, List.length_range]
theorem clsOf_len (n : Nat) : ∀ P : List (List Int), (clsOf n P).length = P.length * n
  | [] => by rw [List.length_nil, Nat.zero_mul]; rfl
  | p :: P => by
    show (rowC n p ++ (P.map (rowC n)).flatten).length = _
    rw [List.length_append, rowC_len, List.length_cons, Nat.succ_mul, Nat.add_comm]
    exact congrArg (· + n) (clsOf_len n P)
theorem clsOf_snoc {n i : Nat} {P : List (List Int)} {p : List Int} (h : P[i]? = some p) : clsOf n (P.take (i + 1)) = clsOf n (P.take i) ++ rowC n p := by
  unfold clsOf
  rw [List.take_succ, h, List.map_append, List.flatten_append]
  show _ ++ (rowC n p ++ []) = _
  rw [List.append_nil]
theorem mem_rowC {n : Nat} {p x : List Int} : x ∈ rowC n p ↔ ∃ r, r < n ∧ x = [((r : Nat) : Int), p.getD r 0] := by
  unfold rowC
  rw [List.mem_map]
  exact ⟨fun ⟨r, h1, h2⟩ => ⟨r, List.mem_range.mp h1, h2.symm⟩, fun ⟨r, h1, h2⟩ => ⟨r, List.mem_range.mpr h1, h2.symm⟩⟩
theorem rowC_nodup (n : Nat) (p : List Int) : (rowC n p).Nodup := by
  unfold rowC List.Nodup
  rw [List.pairwise_map]
  exact List.nodup_range.imp fun h z => h (by
    have := (List.cons.inj z).1
    omega)
theorem cls_nodup (n : Nat) (P : List (List Int)) : (clsOf n P).Nodup ↔ ∀ r, r < n → (colAt P r).Nodup := by
  unfold clsOf colAt List.Nodup
  rw [List.pairwise_flatten, List.pairwise_map]
  constructor
  · rintro ⟨_, h⟩ r hr
    rw [List.pairwise_map]
    exact h.imp fun hh z => hh _ (mem_rowC.mpr ⟨r, hr, rfl⟩) _ (mem_rowC.mpr ⟨r, hr, rfl⟩) (by rw [z])
  · intro h
    refine ⟨fun l hl => ?_, ?_⟩
    · obtain ⟨p, _, rfl⟩ := List.mem_map.mp hl
      exact rowC_nodup n p
    · rw [List.pairwise_iff_getElem]
      intro i j hi hj hij x hx y hy hxy
      obtain ⟨r, hr, rfl⟩ := mem_rowC.mp hx
      obtain ⟨s, hs, rfl⟩ := mem_rowC.mp hy
      have h1 := (List.cons.inj hxy).1
      have h2 := (List.cons.inj (List.cons.inj hxy).2).1
      obtain rfl : r = s := by omega
      have h3 := h r hr
      rw [List.pairwise_map, List.pairwise_iff_getElem] at h3
      exact h3 i j hi hj hij h2
theorem ex_nodup {α : Type} [DecidableEq α] : ∀ B : List α, ∃ A : List α, A.Nodup ∧ ∀ x, x ∈ A ↔ x ∈ B
  | [] => ⟨[], List.nodup_nil, fun x => Iff.rfl⟩
  | b :: B => by
    obtain ⟨A, h1, h2⟩ := ex_nodup B
    by_cases hb : b ∈ A
    · refine ⟨A, h1, fun x => ⟨fun hx => List.mem_cons_of_mem _ ((h2 x).mp hx), fun hx => ?_⟩⟩
      rcases List.mem_cons.mp hx with rfl | hx
      · exact hb
      · exact (h2 x).mpr hx
    · exact ⟨b :: A, List.nodup_cons.mpr ⟨hb, h1⟩, fun x => by rw [List.mem_cons, List.mem_cons, h2 x]⟩
def valsC (n : Nat) (rows : List (List Int)) (p : List Int) : List Int := (List.range n).map fun k => cel rows k (p.getD k 0).toNat
def spPt (K : PySem.W.Frag) : Sp := fun vs H Q _ => ∃ (v u : V) (n : Nat) (rows P : List (List Int)), vs = [v, u] ∧ Dp K H v (sqrD true true rows) ∧ Lat n rows ∧ 1 ≤ n ∧ n ≤ 7 ∧ Dp K H u (sqrD false false P) ∧ (∀ p ∈ P, p.Perm (iota n)) ∧ P.length ≤ 8 ∧ (∀ b : Bool, (b = true ↔ partsOk n rows P) → RetV (.bl b) H Q)
set_option maxHeartbeats 2000000 in
theorem ok__law_is_parting (D : Df K mg "_law_is_parting" s__law_is_parting ["square", "parts"]) (B : Bt mg) : Cd P w K mg base 1 "_law_is_parting" (spPt K) := by
  refine D.ok sc__law_is_parting (fun vs H Q E h => ?_) (fun f cdv A outer s H vs Q E hr h => ?_)
  · obtain ⟨v, u, _, _, _, rfl, _⟩ := h; rfl
  · obtain ⟨v, u, n, rows, P, rfl, hd, L, h1, h7, hu, hPm, hP8, q⟩ := h
    refine ⟨_, (pss_cons (ps_set (i := 2) sc__law_is_parting.nd rfl (Or.inl rfl) (pe_callB (call_lenK (K := K) rfl) (by rfl) B.len PySem.boot_len (pa_cons (pv 0) pa_nil)))
      (pss_cons (ps_set (i := 3) sc__law_is_parting.nd rfl (Or.inl rfl) (pe_lst pa_nil))
      (pss_cons (ps_for PassesOwn.never rfl (pi_listK (K := K) rfl (pv 1)) (pg_name (i := 4) sc__law_is_parting.nd rfl (Or.inr rfl)) (pss_cons (ps_if (pw_or (pt_cmpR (op_neDK (K := K) rfl (hu64 hr)) (pe_callB (cr_sortedK (K := K) rfl) (by rfl) B.sorted boot_sorted (pa_cons (pv 4) pa_nil)) (pe_listRg rfl (by rfl) B.list (prg_1 (by rfl) B.range (pv 2))) (nomark _)) (pw_or1 (pt_cmpR (op_neDK (K := K) rfl (hu64 hr)) (pe_callB (cr_sortedK (K := K) rfl) (by rfl) B.sorted boot_sorted (pa_cons (pe_lc (own := [("r", 5)]) rfl sc__law_is_parting.nd (pi_range1 (by rfl) B.range (pa_cons (pv 2) pa_nil)) (blkOk_by (own := [("r", 5)]) (N := ["square", "parts", "n", "cells", "columns", "r"]) (sc := defScope s__law_is_parting) (by decide +kernel)) (fun _ _ _ _ _ => (pg_name (i := 5) sc__law_is_parting.nd rfl (Or.inl rfl))) (fun _ _ _ _ _ => pts_nil) (fun _ _ _ _ _ => (pe_ix (ix_tupK (K := K) rfl) (pe_ix (ix_tupK (K := K) rfl) (pv 0) (pv 5) (fun _ _ => rfl)) (pe_ix (ix_listK (K := K) rfl) (pv 4) (pv 5) (fun _ _ => rfl)) (fun _ _ => rfl)))) pa_nil)) (pe_listRg rfl (by rfl) B.list (prg_1 (by rfl) B.range (pv 2))) (nomark _)))).pt (pss_one (ps_ret pe_bl)) pss_nil)
          (pss_one (ps_set (i := 3) sc__law_is_parting.nd rfl (Or.inl rfl) (pe_op op_cat (pv 3) (pe_lc (own := [("r", 5)]) rfl sc__law_is_parting.nd (pi_range1 (by rfl) B.range (pa_cons (pv 2) pa_nil)) (blkOk_by (own := [("r", 5)]) (N := ["square", "parts", "n", "cells", "columns", "r"]) (sc := defScope s__law_is_parting) (by decide +kernel)) (fun _ _ _ _ _ => (pg_name (i := 5) sc__law_is_parting.nd rfl (Or.inl rfl))) (fun _ _ _ _ _ => pts_nil) (fun _ _ _ _ _ => (pe_tup (pa_cons (pv 5) (pa_cons (pe_ix (ix_listK (K := K) rfl) (pv 4) (pv 5) (fun _ _ => rfl)) pa_nil))))))))))
      (pss_one (ps_ret (pe_and (pe_cmpR op_eq (pe_callB (call_lenK (K := K) rfl) (by rfl) B.len PySem.boot_len (pa_cons (pv 1) pa_nil)) (pv 2) (nomark _)) (pe_one (pe_cmpR op_eq (pe_callB call_lenST (by rfl) B.len PySem.boot_len (pa_cons (pe_callTy (cr_setOfT rfl (hu64 hr)) (by rfl) B.set PyProof.Rows.boot_set (pa_cons (pv 3) pa_nil)) pa_nil)) (pe_op op_mul (pv 2) (pv 2)) (nomark _))))))))), ?_⟩
    obtain ⟨pa, rfl⟩ := dp_refS (t := false) hu
    obtain ⟨us, hus, hds⟩ := dp_lstE hu
    have hul : us.length = P.length := by rw [dpAll_len _ _ hds, List.length_map]
    have hPl : ∀ p ∈ P, p.length = n := fun p hp => (hPm p hp).length_eq.trans (iota_len n)
    refine q_asg (v := .int (n : Int)) (ev_is (ev_lenD (t := true) (evd_of (ev_var rfl) hd)) (by rw [List.length_map, L.len])) fun H1 e1 => ?_
    refine q_asgL (xs := []) (el_lst ea_nil (by show 0 ≤ 100000; decide)) fun ca0 H2 n2 e2 hca0 => ?_
    have e12 := e1.trans e2
    have hD : ∀ ms : List Int, (PyData.list (pints ms)).depth ≤ 64 := fun ms => by show PyData.depthAll _ + 1 ≤ 64; rw [depthAll_ints]; decide
    have eqB : ∀ ms : List Int, (ms.isPerm (iota n) = true) ↔ PyData.list (pints (srtI ms)) = PyData.list (pints (iota n)) := fun ms => by
      rw [List.isPerm_iff, ← srtI_iota]
      exact ⟨fun e => by rw [e], fun e => pints_inj (by injection e)⟩
    refine q_forW (gets_list (ev_var rfl) (ex_l e12 hus)) (walk_list (xs := us)) (fun i σ' H' => ∃ (ca : Addr) (ks : List (Addr × List Int)) (y : Option V), σ' = [some v, some (.ref pa), some (.int (n : Int)), some (.ref ca), y, none] ∧ Ex H H' ∧ H' ca = some (.lst (ks.map fun p => V.ref p.1)) ∧ (∀ p ∈ ks, SqT K H' p.1 (p.2.map V.int)) ∧ ks.map (·.2) = clsOf n (P.take i) ∧ ∀ (j : Nat) (p : List Int), j < i → P[j]? = some p → trB n rows p = true) ?_ ?_ ?_ ?_
    · intro H3 e3
      exact ⟨ca0, [], none, rfl, e12.trans e3, e3 ca0 _ hca0, fun p hp => (nomatch hp), rfl, fun j p h => absurd h (Nat.not_lt_zero _)⟩
    · rintro i σ' H' _ ⟨ca, ks, y, rfl, e, _⟩; exact ex_l e hus
    · rintro i x σ' H' H3 hi ⟨ca, ks, y, rfl, e, hca, hks, hkc, hall⟩ ⟨rfl, hx⟩
      have hiP : i < P.length := by rw [← hul]; exact hi
      have hPi := List.getElem?_eq_getElem hiP
      obtain ⟨d, k1, k2⟩ := dpAll_get _ _ _ _ hds hx
      rw [List.getElem?_map, hPi] at k1
      cases k1
      obtain ⟨b, rfl, hb⟩ := dp_rowL k2
      have hpm := hPm _ (List.getElem_mem hiP)
      have hpl := hPl _ (List.getElem_mem hiP)
      generalize P[i] = p at *
      unfold gName; dsimp only [List.set]
      have hvl : (valsC n rows p).length = n := by unfold valsC; rw [List.length_map, List.length_range]
      have hpp : p.isPerm (iota n) = true := List.isPerm_iff.mpr hpm
      have htr : trB n rows p = (valsC n rows p).isPerm (iota n) := by unfold trB valsC; rw [hpp, Bool.true_and]
      have colE : ∀ {σ : L2.St} {Hx : Hp} {r : Nat}, Ex H Hx → σ[4]? = some (some (.ref b)) → σ[5]? = some (some (.int (r : Int))) → r < n → Ev (tOp (rIxL K) (tVar 4) (tVar 5)) σ Hx (.int (p.getD r 0)) := fun {σ Hx r} ex h4 h5 hr => ev_op (ev_var h4) (ev_var h5) (rv_ixLn (ex_l ex hb) (ints_at (getD_at (by omega))))
      refine q_when (b := !trB n rows p) (et_is (et_or (a := false) (b := !(valsC n rows p).isPerm (iota n)) (et_is (et_test (ev_neD (K := K) (b := p.isPerm (iota n)) (evd_sorted (ev_var rfl) (.inl (ex_l e hb)) (by omega)) (evd_LI (el_listRg (ev_var rfl) (by omega))) (plD_ints _) (plD_ints _) (hD _) (hD _) (eqB _))) (by rw [hpp]; rfl))
        fun _ => et_test (ev_neD (K := K) (b := (valsC n rows p).isPerm (iota n)) (evd_sortedL (el_is (el_lcG (n := ((n : Int)).toNat) (fun r => V.int (cel rows r (p.getD r 0).toNat)) (fun H1 e => gets_r1 (n := (n : Int)) (ev_var rfl) (by omega)) walk_range (fun H' e => trivial) (by omega) (fun i H1 x H2 y => y.1) (fun _ => rfl) (fun r x H5 hr1 e5 hy => ?_)) (by unfold valsC; rw [List.map_map]; rfl)) (by omega)) (evd_LI (el_listRg (ev_var rfl) (by omega))) (plD_ints _) (plD_ints _) (hD _) (hD _) (eqB _))) (by rw [htr, Bool.false_or])) (fun hb2 H4 e4 => ?_) (fun hb2 H4 e4 => ?_)
      · obtain ⟨_, rfl⟩ := hy
        have hr : r < n := hr1
        have hin := perm_in hpm hr
        have hrl := L.rlen hr
        show Ev _ [some v, some (.ref pa), some (.int (n : Int)), some (.ref ca), some (.ref b), some (.int (0 + (r : Int)))] _ _
        rw [Int.zero_add]
        exact ev_ofI (evd_ixT (ds := pints (rows.getD r [])) (j := (p.getD r 0).toNat) (evd_ixT (ds := rows.map (rowD true)) (j := r) (evd_of (ev_var rfl) (dp_mono (e.trans e5) _ _ hd)) (ev_var rfl) (rows_get (by rw [L.len]; exact hr))) (ev_natI (colE (e.trans e5) rfl rfl hr) hin.1) (pints_get (by omega)))
      · refine s_ret ev_c fun H5 e5 => q false ⟨fun z => (nomatch z), fun z => ?_⟩ H5 (e.trans (e4.trans e5))
        rw [z.2.1 p (List.mem_of_getElem? hPi)] at hb2
        cases hb2
      · have hkl : ks.length ≤ 56 := by
          have h5 : ks.length = (P.take i).length * n := by rw [← clsOf_len, ← hkc, List.length_map]
          rw [h5]
          refine Nat.le_trans (Nat.mul_le_mul (show (P.take i).length ≤ 8 by rw [List.length_take]; omega) h7) (by decide)
        refine s_asgCat (fun zs H2 => ∃ ts : List Addr, zs = ts.map V.ref ∧ ts.length = n ∧ ∀ (r : Nat) (t : Addr), ts[r]? = some t → H2 t = some (.tup [.int (r : Int), .int (p.getD r 0)])) (ev_var rfl) (e4 ca _ hca)
          (fun H5 e5 Q q => lc_tups (F := fun r => [V.int (r : Int), V.int (p.getD r 0)]) (gets_r1 (n := (n : Int)) (ev_var rfl) (by omega)) walk_range (fun _ _ => trivial) (fun i H1 x H2 y => y.1) (by omega) (fun _ => rfl) (fun r x Hx hr1 ex hy => ?_) (fun o ts H6 e6 no ho hl ht => q o _ H6 e6 ho ⟨ts, rfl, hl, ht⟩))
          (fun zs H2 hg => ?_) (fun zs H1 H2 e hg => ?_) (fun np zs H6 e6 hg hnp => ?_)
        · obtain ⟨_, rfl⟩ := hy
          have hr : r < n := hr1
          show EvU _ [some v, some (.ref pa), some (.int (n : Int)), some (.ref ca), some (.ref b), some (.int (0 + (r : Int)))] _ _
          rw [Int.zero_add]
          exact eu_tup (ea_cons (ev_var rfl) (ea_cons (colE (e.trans (e4.trans (e5.trans ex))) rfl rfl hr) ea_nil)) (by show 2 ≤ 100000; decide)
        · obtain ⟨ts, rfl, hl, _⟩ := hg
          rw [List.length_map, List.length_map]; omega
        · obtain ⟨ts, hz, hl, ht⟩ := hg
          exact ⟨ts, hz, hl, fun r t h => e t _ (ht r t h)⟩
        · obtain ⟨ts, rfl, hl, ht⟩ := hg
          have hrl := rowC_len n p
          have hf : (ts.zip (rowC n p)).map Prod.fst = ts := List.map_fst_zip (by omega)
          have hsn : (ts.zip (rowC n p)).map Prod.snd = rowC n p := List.map_snd_zip (by omega)
          refine ⟨np, ks ++ ts.zip (rowC n p), _, rfl, e.trans (e4.trans e6), ?_, ?_, ?_, ?_⟩
          · rw [hnp, List.map_append]
            congr 3
            rw [← hf, List.map_map, hf]
            exact List.map_congr_left fun _ _ => rfl
          · intro q2 hq2
            rcases List.mem_append.mp hq2 with h | h
            · exact ex_t (e4.trans e6) (hks q2 h)
            · obtain ⟨r, hr⟩ := List.mem_iff_getElem?.mp h
              rw [List.getElem?_zip_eq_some] at hr
              obtain ⟨hr1, hr2⟩ := hr
              have hrn : r < n := by have := (List.getElem?_eq_some_iff.mp hr1).1; omega
              have h3 : q2.2 = [(r : Int), p.getD r 0] := by
                unfold rowC at hr2
                rw [List.getElem?_map, List.getElem?_range hrn] at hr2
                exact (Option.some.inj hr2).symm
              rw [h3]
              exact st_of (ht r q2.1 hr1)
          · rw [List.map_append, hkc, clsOf_snoc hPi]
            exact congrArg (clsOf n (P.take i) ++ ·) hsn
          · intro j p2 hj hp2
            rcases Nat.lt_or_ge j i with h | h
            · exact hall j p2 h hp2
            · obtain rfl : j = i := by omega
              rw [hPi] at hp2; cases hp2
              simpa using hb2
    · rintro σ' H3 ⟨ca, ks, y, rfl, e, hca, hks, hkc, hall⟩
      rw [hul, List.take_of_length_le (Nat.le_refl _)] at hkc
      have htr : ∀ p ∈ P, trB n rows p = true := fun p hp => by
        obtain ⟨j, hj, rfl⟩ := List.getElem_of_mem hp
        exact hall j _ (by rw [hul]; exact hj) (List.getElem?_eq_getElem hj)
      obtain ⟨A, hA1, hA2⟩ := ex_nodup (clsOf n P)
      have hkl : ks.length < 64 := by
        have h5 : ks.length = P.length * n := by rw [← clsOf_len, ← hkc, List.length_map]
        rw [h5]
        exact Nat.lt_of_le_of_lt (Nat.mul_le_mul hP8 h7) (by decide)
      have hz : ∀ L : List (List Int), L.Nodup → (∀ x, x ∈ L ↔ x ∈ ks.map (·.2)) → (L.length : Int) = (A.length : Int) := fun L h1 h2 => by
        rw [((List.perm_ext_iff_of_nodup h1 hA1).mpr fun x => by rw [h2 x, hkc, hA2 x]).length_eq]
      refine s_ret (v := .bl (decide (V.int (P.length : Int) = V.int (n : Int)) && decide (V.int (A.length : Int) = V.int ((n : Int) * (n : Int))))) (ev_andV (ev_op (ev_is (ev_lenL (ev_var rfl) (.inl (ex_l e hus))) (by rw [hul])) (ev_var rfl) (rv_eq rfl)) fun _ => ev_op (ev_lenSetT (ev_var rfl) (sq_of hca) hks hkl hz) (ev_op (ev_var rfl) (ev_var rfl) (rv_I (.inl ⟨by omega, by omega⟩))) (rv_eq rfl)) fun H4 e4 => q _ ?_ H4 (e.trans e4)
      rw [Bool.and_eq_true, decide_eq_true_eq, decide_eq_true_eq]
      have hln := len_nodup hA1 hA2
      rw [clsOf_len] at hln
      constructor
      · rintro ⟨h1, h2⟩
        have h3 : P.length = n := by have := V.int.inj h1; omega
        have h4 : A.length = n * n := by have := V.int.inj h2; exact_mod_cast this
        exact ⟨h3, htr, (cls_nodup n P).mp (hln.mp (by rw [h3, h4]))⟩
      · rintro ⟨h1, _, h2⟩
        have h3 := hln.mpr ((cls_nodup n P).mpr h2)
        rw [h1] at h3
        exact ⟨by rw [h1], by rw [h3]; push_cast; rfl⟩

end
end My
namespace My
open PySem PySem.Spec PyProof.Rows L2 Evl Mi Mm
abbrev s__law_told : Stmt := top 28
theorem sc__law_told : FnScope ["square", "parts", "e"] ["square", "parts"] (defScope s__law_told) := ⟨rfl, rfl, rfl, by decide +kernel, rfl, by decide +kernel, by decide +kernel⟩
section
variable {P : Program} {w : World} {K : PySem.W.Frag} {mg : Str → Option Value} {base : Heap}
def spTdM (K : PySem.W.Frag) (tp : Addr) : Sp := fun vs H Q _ => ∃ (v : V) (n : Nat) (rows : List (List Int)) (o i : Bool) (u : V) (P : List (List Int)), vs = [v, u] ∧ Dp K H v (sqrD o i rows) ∧ Lat n rows ∧ 1 ≤ n ∧ n ≤ 12 ∧ H tp = some (tabO tp) ∧ Dp K H u (sqrD false true P) ∧ (∀ p ∈ P, p.length < 64) ∧ P.length < 64 ∧
  (partsOk n rows P → RetP K (sqrD true true (numR n (toN P))) H Q) ∧ (¬partsOk n rows P → RetV (.str "refused") H Q)
theorem ok__law_told {Cq Cm tp : Addr} (D : Df K mg "_law_told" s__law_told ["square", "parts"]) (B : Bt mg) (E_InvalidQuestion : ErrC K mg "InvalidQuestion" Cq) (EM_InvalidQuestion : ErrM K mg Cq Cm) (c_mate_by : Ce P w K mg base 4 "mate_by" (spMB K tp Cq)) : Cd P w K mg base 5 "_law_told" (spTdM K tp) := by
  refine D.ok sc__law_told (fun vs H Q E h => ?_) (fun f cdv A outer s H vs Q E hr h => ?_)
  · obtain ⟨v, _, _, _, _, u, _, rfl, _⟩ := h; rfl
  · obtain ⟨v, n, rows, o, i, u, P, rfl, hd, L, h1, h12, hT, hu, hsh, hfew, hQ, hE⟩ := h
    refine ⟨_, (pss_one (ps_try_as (i := 2) rfl rfl sc__law_told.nd rfl rfl ⟨rfl, by decide, .inl E_InvalidQuestion.gP⟩ takes0 (fun W pn xe tk _ => (pss_one (ps_ret (pe_ce c_mate_by hr (by first | decide | omega) (by rfl) tk (pa_cons (pv 0) (pa_cons (pv 1) pa_nil)))))) (fun a oe cls d pn hz hf => (pss_one (ps_ret (pe_ix (ix_listK (K := K) rfl) (pe_lst (pa_cons pe_str (pa_cons pe_str pa_nil))) (pe_callTy call_int1 (by rfl) B.int boot_int (pa_cons (pe_and (pe_isE rfl EM_InvalidQuestion.ex hz hf (by rfl) B.isinstance boot_isinstance (pa_cons (pv 2) (pa_cons (pe_glob (v := V.ref Cm) (by rfl) EM_InvalidQuestion.gM rfl) pa_nil))) (pe_one (pe_isE rfl EM_InvalidQuestion.ex hz hf (by rfl) B.isinstance boot_isinstance (pa_cons (pv 2) (pa_cons (pe_bltn (v := V.ty "ValueError") (by rfl) EM_InvalidQuestion.nV boot_ValueError rfl) pa_nil))))) pa_nil)) (fun _ _ => rfl))))))), ?_⟩
    refine s_retA (ea_cons (ev_var rfl) (ea_cons (ev_var rfl) ea_nil)) fun H1 e1 => ?_
    exact ⟨v, n, rows, o, i, u, P, rfl, dp_mono e1 _ _ hd, L, h1, h12, e1 tp _ hT, dp_mono e1 _ _ hu, hsh, hfew, fun hok v2 H2 e2 hv => hQ hok v2 H2 (e1.trans e2) hv, fun hok H2 e2 => ⟨true, E_InvalidQuestion.eP, fun _ a0 _ => s_ret (ev_told EM_InvalidQuestion rfl) fun H3 e3 => hE hok H3 ((e1.trans e2).trans e3), fun z => nomatch z⟩⟩

end
end My
namespace My
open PySem PySem.Spec PyProof.Rows L2 Evl Mi Mm

section
variable {P : Program} {w : World} {K : PySem.W.Frag} {mg : Str → Option Value} {base : Heap}
theorem nodup_mapR {n : Nat} {f : Nat → Int} (h : ∀ i j, i < n → j < n → f i = f j → i = j) : ((List.range n).map f).Nodup := by
  unfold List.Nodup
  rw [List.pairwise_map]
  exact List.nodup_range.imp_of_mem fun ha hb hne z => hne (h _ _ (List.mem_range.mp ha) (List.mem_range.mp hb) z)
theorem mapR_inj {n : Nat} {f : Nat → Int} (h : ((List.range n).map f).Nodup) {i j : Nat} (hi : i < n) (hj : j < n) (e : f i = f j) : i = j := by
  refine (List.getElem?_inj (l := (List.range n).map f) (by rw [List.length_map, List.length_range]; exact hi) h).mp ?_
  rw [List.getElem?_map, List.getElem?_map, List.getElem?_range hi, List.getElem?_range hj]
  exact congrArg some e
theorem nodup_iota {n : Nat} {l : List Int} (h : l.Perm (iota n)) : l.Nodup := h.nodup_iff.mpr (iota_nodup n)
theorem lat_rinj {n : Nat} {R : List (List Int)} (L : Lat n R) {r c c' : Nat} (hr : r < n) (hc : c < n) (hc' : c' < n) (e : cel R r c = cel R r c') : c = c' := by
  have hl := L.rlen hr
  refine (List.getElem?_inj (l := R.getD r []) (i := c) (by omega) (nodup_iota (L.row r hr))).mp ?_
  unfold cel at e
  generalize R.getD r [] = l at *
  have h1 := getD_at (ns := l) (i := c) (by omega)
  have h2 := getD_at (ns := l) (i := c') (by omega)
  rw [h1, h2, e]
theorem lat_cinj {n : Nat} {R : List (List Int)} (L : Lat n R) {r r' c : Nat} (hr : r < n) (hr' : r' < n) (hc : c < n) (e : cel R r c = cel R r' c) : r = r' := by
  have h := nodup_iota (L.col c hc)
  unfold col at h
  rw [L.len] at h
  exact mapR_inj h hr hr' e
def idx (R : List (List Int)) (r s : Nat) : Nat := (R.getD r []).idxOf (s : Int)
theorem idx_in {n : Nat} {R : List (List Int)} (L : Lat n R) {r s : Nat} (hr : r < n) (hs : s < n) : idx R r s < n ∧ cel R r (idx R r s) = (s : Int) := by
  have hm : (s : Int) ∈ R.getD r [] := (L.row r hr).mem_iff.mpr (iota_mem.mpr (by omega))
  obtain ⟨g1, _⟩ := idx_spec _ _ hm
  have hl := L.rlen hr
  refine ⟨by have := (List.getElem?_eq_some_iff.mp g1).1; unfold idx; omega, ?_⟩
  unfold cel idx
  rw [List.getD_eq_getElem?_getD, g1]; rfl
def mPart (n : Nat) (R : List (List Int)) : List (List Int) := (List.range n).map fun s => colsIn n R s
theorem cols_get {n : Nat} {R : List (List Int)} {r s : Nat} (hr : r < n) : (colsIn n R s).getD r 0 = ((idx R r s : Nat) : Int) := getD_map_range n _ r 0 hr
theorem cols_perm {n : Nat} {R : List (List Int)} (L : Lat n R) {s : Nat} (hs : s < n) : (colsIn n R s).Perm (iota n) := by
  refine perm_of (nodup_mapR fun i j hi hj e => ?_) (by unfold colsIn; rw [List.length_map, List.length_range]) fun x hx => ?_
  · have h1 := idx_in L hi hs
    have h2 := idx_in L hj hs
    have h3 : idx R i s = idx R j s := by exact_mod_cast (show ((idx R i s : Nat) : Int) = ((idx R j s : Nat) : Int) from e)
    exact lat_cinj L hi hj h1.1 (by rw [h1.2, h3, h2.2])
  · unfold colsIn at hx
    obtain ⟨r, hr, rfl⟩ := List.mem_map.mp hx
    have := (idx_in L (List.mem_range.mp hr) hs).1
    show 0 ≤ ((idx R r s : Nat) : Int) ∧ ((idx R r s : Nat) : Int) < n
    omega
theorem colAt_mPart {n : Nat} {R : List (List Int)} {r : Nat} (hr : r < n) : colAt (mPart n R) r = (List.range n).map fun s => ((idx R r s : Nat) : Int) := by
  unfold colAt mPart
  rw [List.map_map]
  exact List.map_congr_left fun s _ => cols_get hr
/-- the parts of a mate are parts -/
theorem mPart_ok {n : Nat} {A R : List (List Int)} (LA : Lat n A) (L : Lat n R) (h : Rep n A R none) : partsOk n A (mPart n R) := by
  refine ⟨by unfold mPart; rw [List.length_map, List.length_range], fun p hp => ?_, fun r hr => ?_⟩
  · unfold mPart at hp
    obtain ⟨s, hs, rfl⟩ := List.mem_map.mp hp
    have hs := List.mem_range.mp hs
    unfold trB
    rw [List.isPerm_iff.mpr (cols_perm L hs), Bool.true_and, List.isPerm_iff]
    have he : (List.range n).map (fun k => cel A k ((colsIn n R s).getD k 0).toNat) = (List.range n).map fun k => cel A k (idx R k s) := List.map_congr_left fun k hk => by rw [cols_get (List.mem_range.mp hk), Int.toNat_natCast]
    rw [he]
    refine perm_of (nodup_mapR fun i j hi hj e => ?_) (by rw [List.length_map, List.length_range]) fun x hx => ?_
    · have h1 := idx_in L hi hs
      have h2 := idx_in L hj hs
      exact (norep_at h hi h1.1 hj h2.1 e (by rw [h1.2, h2.2])).1
    · obtain ⟨r, hr, rfl⟩ := List.mem_map.mp hx
      exact LA.cin (List.mem_range.mp hr) (idx_in L (List.mem_range.mp hr) hs).1
  · rw [colAt_mPart hr]
    refine nodup_mapR fun i j hi hj e => ?_
    have h1 := idx_in L hr hi
    have h2 := idx_in L hr hj
    have h3 : idx R r i = idx R r j := by exact_mod_cast e
    have h4 := h1.2
    rw [h3, h2.2] at h4
    omega
/-- the number of the part that has a cell -/
def dueRow (n : Nat) (P : List (List Int)) (r : Nat) : List Int := (List.range n).map fun c : Nat => (((colAt P r).idxOf (c : Int) : Nat) : Int)
theorem colAt_perm {n : Nat} {A P : List (List Int)} (h : partsOk n A P) {r : Nat} (hr : r < n) : (colAt P r).Perm (iota n) := by
  refine perm_of (h.2.2 r hr) (by unfold colAt; rw [List.length_map, h.1]) fun x hx => ?_
  unfold colAt at hx
  obtain ⟨p, hp, rfl⟩ := List.mem_map.mp hx
  exact perm_in (trB_perm (h.2.1 p hp)) hr
theorem idxOf_eq {l : List Int} (h : l.Nodup) {a : Nat} {x : Int} (ha : l[a]? = some x) : l.idxOf x = a := by
  obtain ⟨g1, _⟩ := idx_spec l x (List.mem_of_getElem? ha)
  exact (List.getElem?_inj (List.getElem?_eq_some_iff.mp g1).1 h).mp (g1.trans ha.symm)
theorem num_due {n : Nat} {A P : List (List Int)} (h : partsOk n A P) : numR n (toN P) = (List.range n).map (dueRow n P) := by
  unfold numR
  refine List.map_congr_left fun r hr => ?_
  have hr := List.mem_range.mp hr
  have hcp := colAt_perm h hr
  have hps : (toN P).map (fun p => p.getD r 0) = (colAt P r).map Int.toNat := by
    unfold toN colAt
    rw [List.map_map, List.map_map]
    refine List.map_congr_left fun p _ => ?_
    show (p.map Int.toNat).getD r 0 = (p.getD r 0).toNat
    rw [List.getD_eq_getElem?_getD, List.getElem?_map, List.getD_eq_getElem?_getD]
    cases p[r]? <;> rfl
  rw [hps]
  have hcl : (colAt P r).length = n := hcp.length_eq.trans (iota_len n)
  apply List.ext_getElem?
  intro c
  by_cases hc : c < n
  · have hm : (c : Int) ∈ colAt P r := hcp.mem_iff.mpr (iota_mem.mpr (by omega))
    have hm2 : c ∈ (colAt P r).map Int.toNat := List.mem_map.mpr ⟨_, hm, Int.toNat_natCast c⟩
    obtain ⟨a, ha, hac, hv, _⟩ := rowN_in (fun a => (a : Int)) 0 n _ c hc hm2
    rw [List.length_map] at ha
    rw [hv]
    have hx := List.getElem?_eq_getElem ha
    have hge : ((colAt P r)[a]'ha) = (c : Int) := by
      rw [List.getD_eq_getElem?_getD, List.getElem?_map, hx] at hac
      have h1 : ((colAt P r)[a]'ha).toNat = c := hac
      have h2 := iota_mem.mp (hcp.mem_iff.mp (List.getElem_mem ha))
      omega
    rw [hge] at hx
    unfold dueRow
    rw [List.getElem?_map, List.getElem?_range hc]
    show _ = some (((colAt P r).idxOf (c : Int) : Nat) : Int)
    rw [idxOf_eq (h.2.2 r hr) hx]
  · rw [List.getElem?_eq_none (by rw [rowN_len]; omega), List.getElem?_eq_none (by unfold dueRow; rw [List.length_map, List.length_range]; omega)]
/-- of the parts of a mate the mate comes -/
theorem num_mate {n : Nat} {A R : List (List Int)} (LA : Lat n A) (L : Lat n R) (h : Rep n A R none) : numR n (toN (mPart n R)) = R := by
  have hp := mPart_ok LA L h
  rw [num_due hp]
  apply List.ext_getElem?
  intro r
  by_cases hr : r < n
  · rw [List.getElem?_map, List.getElem?_range hr, List.getElem?_eq_getElem (by rw [L.len]; exact hr)]
    refine congrArg some ?_
    have hrow : R.getD r [] = R[r]'(by rw [L.len]; exact hr) := by rw [List.getD_eq_getElem?_getD, List.getElem?_eq_getElem (by rw [L.len]; exact hr)]; rfl
    rw [← hrow]
    have hl := L.rlen hr
    apply List.ext_getElem?
    intro c
    by_cases hc : c < n
    · unfold dueRow
      rw [List.getElem?_map, List.getElem?_range hc]
      show some (((colAt (mPart n R) r).idxOf (c : Int) : Nat) : Int) = _
      have hci := L.cin hr hc
      have hs : (cel R r c).toNat < n := by omega
      have h1 := idx_in L hr hs
      have h2 : idx R r (cel R r c).toNat = c := lat_rinj L hr h1.1 hc (by rw [h1.2]; omega)
      have h3 : (colAt (mPart n R) r)[(cel R r c).toNat]? = some (c : Int) := by
        rw [colAt_mPart hr, List.getElem?_map, List.getElem?_range hs]
        exact congrArg some (congrArg Int.ofNat h2)
      rw [idxOf_eq (hp.2.2 r hr) h3, Int.toNat_of_nonneg hci.1, List.getElem?_eq_getElem (by omega)]
      unfold cel
      rw [List.getD_eq_getElem?_getD, List.getElem?_eq_getElem (by omega)]; rfl
    · rw [List.getElem?_eq_none (by unfold dueRow; rw [List.length_map, List.length_range]; omega), List.getElem?_eq_none (by omega)]
  · rw [List.getElem?_eq_none (by rw [List.length_map, List.length_range]; omega), List.getElem?_eq_none (by rw [L.len]; omega)]

end
end My
namespace My
open PySem PySem.Spec PyProof.Rows L2 Evl Mi Mm

section
variable {P : Program} {w : World} {K : PySem.W.Frag} {mg : Str → Option Value} {base : Heap}
/-- a list of lists of its own that changes: o holds bs, they hold the rows of P -/
structure PL (H0 H' : Hp) (o : Addr) (bs : List Addr) (P : List (List Int)) : Prop where
  ex : Ex H0 H'
  no : H0 o = none
  nb : ∀ b ∈ bs, H0 b = none
  is : H' o = some (.lst (bs.map V.ref))
  ln : bs.length = P.length
  row : ∀ (i : Nat) (b : Addr), bs[i]? = some b → H' b = some (.lst ((P.getD i []).map V.int))
  nd : bs.Nodup
  ap : o ∉ bs
theorem PL.up {H0 H' H1 : Hp} {o : Addr} {bs : List Addr} {P : List (List Int)} (A : PL H0 H' o bs P) (e : Ex H' H1) : PL H0 H1 o bs P :=
  ⟨A.ex.trans e, A.no, A.nb, e o _ A.is, A.ln, fun i b h => e b _ (A.row i b h), A.nd, A.ap⟩
theorem PL.at_ {H0 H' : Hp} {o : Addr} {bs : List Addr} {P : List (List Int)} (A : PL H0 H' o bs P) {i : Nat} (h : i < P.length) : ∃ b, bs[i]? = some b ∧ H' b = some (.lst ((P.getD i []).map V.int)) := by
  have hx := List.getElem?_eq_getElem (l := bs) (i := i) (by rw [A.ln]; exact h)
  exact ⟨_, hx, A.row i _ hx⟩
theorem PL.dp {K : PySem.W.Frag} {H0 H' : Hp} {o : Addr} {bs : List Addr} {P : List (List Int)} (A : PL H0 H' o bs P) : Dp K H' (.ref o) (sqrD false false P) := by
  refine .lst (sq_of A.is) (dpAll_rows bs P A.ln fun i b hb => A.row i b hb)
theorem ex_updN {H0 H' : Hp} {a : Addr} {u : HO} (e : Ex H0 H') (h : H0 a = none) : Ex H0 (upd H' a u) := fun b ob hb => by
  rw [upd_ne (by rintro rfl; rw [h] at hb; cases hb)]; exact e b ob hb
theorem eraseIdx_mapV {α β : Type} (f : α → β) : ∀ (l : List α) (k : Nat), (l.map f).eraseIdx k = (l.eraseIdx k).map f
  | [], _ => rfl
  | _ :: _, 0 => rfl
  | a :: l, k + 1 => congrArg (f a :: ·) (eraseIdx_mapV f l k)
theorem PL.pop {H0 H' : Hp} {o : Addr} {bs : List Addr} {P : List (List Int)} (A : PL H0 H' o bs P) {k : Nat} (hk : k < P.length) : PL H0 (upd H' o (.lst ((bs.map V.ref).eraseIdx k))) o (bs.eraseIdx k) (P.eraseIdx k) := by
  have hs : ∀ b ∈ bs.eraseIdx k, b ∈ bs := fun b hb => List.mem_of_mem_eraseIdx hb
  refine ⟨ex_updN A.ex A.no, A.no, fun b hb => A.nb b (hs b hb), by rw [upd_same, eraseIdx_mapV], by rw [List.length_eraseIdx, List.length_eraseIdx, A.ln], fun i b hb => ?_, A.nd.sublist (List.eraseIdx_sublist bs k), fun h => A.ap (hs _ h)⟩
  rw [upd_ne (by rintro rfl; exact A.ap (hs _ (List.mem_of_getElem? hb)))]
  rw [List.getElem?_eraseIdx] at hb
  rw [List.getD_eq_getElem?_getD, List.getElem?_eraseIdx]
  by_cases h : i < k
  · rw [if_pos h] at hb ⊢
    rw [← List.getD_eq_getElem?_getD]
    exact A.row i b hb
  · rw [if_neg h] at hb ⊢
    rw [← List.getD_eq_getElem?_getD]
    exact A.row (i + 1) b hb
theorem getD_set {α : Type} {P : List (List α)} {k i : Nat} {r : List α} (hk : k < P.length) : (P.set k r).getD i [] = if i = k then r else P.getD i [] := by
  rw [List.getD_eq_getElem?_getD, List.getElem?_set]
  by_cases h : k = i
  · rw [if_pos h, if_pos hk, if_pos h.symm]; rfl
  · rw [if_neg h, if_neg fun z => h z.symm, ← List.getD_eq_getElem?_getD]
/-- another row in its place -/
theorem PL.set {H0 H' : Hp} {o b2 : Addr} {bs : List Addr} {P : List (List Int)} {r : List Int} (A : PL H0 H' o bs P) {k : Nat} (hk : k < P.length) (h0 : H0 b2 = none) (hn : b2 ∉ bs) (ho : b2 ≠ o) (hb : H' b2 = some (.lst (r.map V.int))) : PL H0 (upd H' o (.lst ((bs.map V.ref).set k (.ref b2)))) o (bs.set k b2) (P.set k r) := by
  have hs : ∀ b ∈ bs.set k b2, b ∈ bs ∨ b = b2 := fun b hb => List.mem_or_eq_of_mem_set hb
  have hkb : k < bs.length := by rw [A.ln]; exact hk
  refine ⟨ex_updN A.ex A.no, A.no, fun b hb2 => (hs b hb2).elim (A.nb b) fun z => z ▸ h0, by rw [upd_same, List.map_set], by rw [List.length_set, List.length_set, A.ln], fun i b hb2 => ?_, ?_, fun h => (hs _ h).elim A.ap fun z => ho z.symm⟩
  · rw [upd_ne (by rintro rfl; exact (hs _ (List.mem_of_getElem? hb2)).elim A.ap fun z => ho z.symm), getD_set hk]
    rw [List.getElem?_set] at hb2
    by_cases h : k = i
    · rw [if_pos h, if_pos hkb] at hb2
      cases hb2
      rw [if_pos h.symm]
      exact hb
    · rw [if_neg h] at hb2
      rw [if_neg fun z => h z.symm]
      exact A.row i b hb2
  · unfold List.Nodup
    rw [List.pairwise_iff_getElem]
    intro i j hi hj hij
    rw [List.length_set] at hi hj
    rw [List.getElem_set, List.getElem_set]
    have nd := A.nd
    unfold List.Nodup at nd
    rw [List.pairwise_iff_getElem] at nd
    by_cases h1 : k = i
    · rw [if_pos h1, if_neg (by omega)]
      intro z; exact hn (z ▸ List.getElem_mem _)
    · rw [if_neg h1]
      by_cases h2 : k = j
      · rw [if_pos h2]
        intro z; exact hn (z ▸ List.getElem_mem _)
      · rw [if_neg h2]; exact nd i j hi hj hij
/-- a row changes -/
theorem PL.chg {H0 H' : Hp} {o b : Addr} {bs : List Addr} {P : List (List Int)} {r : List Int} (A : PL H0 H' o bs P) {k : Nat} (hb : bs[k]? = some b) : PL H0 (upd H' b (.lst (r.map V.int))) o bs (P.set k r) := by
  have hbm := List.mem_of_getElem? hb
  have hkb := (List.getElem?_eq_some_iff.mp hb).1
  have hk : k < P.length := by rw [← A.ln]; exact hkb
  refine ⟨ex_updN A.ex (A.nb b hbm), A.no, A.nb, by rw [upd_ne (fun z : o = b => A.ap (by rw [z]; exact hbm))]; exact A.is, by rw [List.length_set, A.ln], fun i c hc => ?_, A.nd, A.ap⟩
  rw [getD_set hk]
  by_cases h : i = k
  · subst h
    rw [hb] at hc; cases hc
    rw [if_pos rfl, upd_same]
  · rw [if_neg h, upd_ne]
    · exact A.row i c hc
    · rintro rfl
      exact h ((List.getElem?_inj (List.getElem?_eq_some_iff.mp hc).1 A.nd).mp (hc.trans hb.symm))
theorem PL.app {H0 H' : Hp} {o b2 : Addr} {bs : List Addr} {P : List (List Int)} {r : List Int} (A : PL H0 H' o bs P) (h0 : H0 b2 = none) (hn : b2 ∉ bs) (ho : b2 ≠ o) (hb : H' b2 = some (.lst (r.map V.int))) : PL H0 (upd H' o (.lst (bs.map V.ref ++ [.ref b2]))) o (bs ++ [b2]) (P ++ [r]) := by
  refine ⟨ex_updN A.ex A.no, A.no, fun b hb2 => ?_, by rw [upd_same, List.map_append]; rfl, by rw [List.length_append, List.length_append, A.ln]; rfl, fun i b hb2 => ?_, nodup_snoc A.nd hn, fun h => ?_⟩
  · rcases List.mem_append.mp hb2 with h | h
    · exact A.nb b h
    · rw [List.mem_singleton.mp h]; exact h0
  · by_cases h : i < bs.length
    · rw [List.getElem?_append_left h] at hb2
      rw [upd_ne (by rintro rfl; exact A.ap (List.mem_of_getElem? hb2)), List.getD_eq_getElem?_getD, List.getElem?_append_left (by rw [← A.ln]; exact h), ← List.getD_eq_getElem?_getD]
      exact A.row i b hb2
    · rw [List.getElem?_append_right (by omega)] at hb2
      have h2 : i - bs.length = 0 := by
        have := (List.getElem?_eq_some_iff.mp hb2).1
        simp at this; omega
      rw [h2] at hb2
      cases hb2
      rw [upd_ne ho, List.getD_eq_getElem?_getD, List.getElem?_append_right (by rw [← A.ln]; omega), ← A.ln, h2]
      exact hb
  · rcases List.mem_append.mp h with h | h
    · exact A.ap h
    · exact ho (List.mem_singleton.mp h).symm
/-- a new list is none of these -/
theorem PL.fresh {H0 H' : Hp} {o b2 : Addr} {bs : List Addr} {P : List (List Int)} (A : PL H0 H' o bs P) (h : H' b2 = none) : H0 b2 = none ∧ b2 ∉ bs ∧ b2 ≠ o := by
  refine ⟨fresh_back A.ex h, fun hm => ?_, fun z => by rw [z, A.is] at h; cases h⟩
  obtain ⟨i, hi⟩ := List.mem_iff_getElem?.mp hm
  rw [A.row i b2 hi] at h; cases h

end
end My
namespace My
open PySem PySem.Spec PyProof.Rows L2 Evl Mi Mm

section
variable {P : Program} {w : World} {K : PySem.W.Frag} {mg : Str → Option Value} {base : Heap}
theorem pg_lstK {X : Cx} {K : PySem.W.Frag} (h0 : X.K = K) {pos : Pos} {es : List Expr} {k : Nat} {t : TGs} {n : Nat} (hc : X.calm = true) (h : PGs X es t)
    (hn : (assignEach es X.env).length = n := by rfl) (hst : (assignEach es X.env).findIdx? (·.1) = none := by rfl) : PG X (.Tuple es k pos) (gLst K n t) := h0 ▸ pg_lst hc h hn hst
theorem pe_idxLc {X : Cx} {K : PySem.W.Frag} (h : X.K = K) {el e : Expr} {gs : List Comprehension} {sc : Scope} {es : List Expr} {to : TE} {t : TA} {pos apos cpos : Pos} (ho : PE X (.ListComp el gs sc pos) to) (hg : PA X (e :: es) t)
    (h1 : attributeBase (.ListComp el gs sc pos) "index" X.env (eval (.ListComp el gs sc pos) X.env) = eval (.ListComp el gs sc pos) X.env := by rfl)
    (h2 : ((((backTo cpos (starEach (e :: es) X.env)).all fun x => !x.fst) && (backToKw cpos (keywordEach [] X.env)).all fun x => x.fst.isSome) && decide (((e :: es).length + ([] : List Keyword).length + if ([] : List Keyword).isEmpty = true then 0 else 1) < 30)) = true := by rfl)
    (h3 : (apos.endLine == cpos.line) = true := by rfl) (h4 : starEach (e :: es) X.env = (false, eval e X.env) :: starEach es X.env := by rfl) (h5 : ((backTo cpos (starEach es X.env)).any fun x => x.fst) = false := by rfl) :
    PE X (.Call (.Attribute (.ListComp el gs sc pos) "index" apos) (e :: es) [] cpos) (tBM K "list" (rIndex K) to t) :=
  h ▸ pe_bm PySem.F.plainAttrs_list PySem.F.slot_list_index PySem.F.type_list_index mt_index ho hg h1 h2 h3 h4 h5
theorem evq_callP {K : PySem.W.Frag} {σ : L2.St} {H : Hp} {sp : Sp} {E : XK} {ts : TA} {ds : List PyData} {d : PyData} (h : EvDA K ts σ H ds) (hs : ∀ vs H1, Ex H H1 → DpAll K H1 vs ds → ∀ Q : VK, RetP K d H1 Q → sp (vs ++ []) H1 Q E) : EvQ K (tCall sp [] E ts) σ H d := fun H1 e Q q =>
  h H1 e _ fun vs H2 e2 hvs => hs vs H2 (e.trans e2) (dpAll_mono (nw_ex e e2) _ _ hvs) _ fun v H3 e3 hv => q v H3 (e2.trans e3) hv
theorem evq_callPS {K : PySem.W.Frag} {σ : L2.St} {H : Hp} {sp : Sp} {E : L2.St → XK} {ts : TA} {ds : List PyData} {d : PyData} (h : EvDA K ts σ H ds) (hs : ∀ vs H1, Ex H H1 → DpAll K H1 vs ds → ∀ Q : VK, RetP K d H1 Q → sp vs H1 Q (E σ)) : EvQ K (tCallS sp E ts) σ H d := fun H1 e Q q =>
  h H1 e _ fun vs H2 e2 hvs => hs vs H2 (e.trans e2) (dpAll_mono (nw_ex e e2) _ _ hvs) _ fun v H3 e3 hv => q v H3 (e2.trans e3) hv
section
variable {K : PySem.W.Frag} {σ : L2.St} {H : Hp} {te ta tb to ti : TE} {D : Ends} {tz : TS}
/-- o[j] = a new list -/
theorem s_subNew {xs ys : List V} {o : Addr} {j : Nat} (h : EvL te σ H ys) (ho : ∀ H1, Ex H H1 → Ev to σ H1 (.ref o)) (hi : ∀ H1, Ex H H1 → Ev ti σ H1 (.int (j : Int))) (hl : H o = some (.lst xs)) (hj : j < xs.length) (k : ∀ p H1, H p = none → Ex H H1 → H1 p = some (.lst ys) → D.nx σ (upd H1 o (.lst (xs.set j (.ref p))))) : tAsg te (gSub to ti rSetL) D σ H :=
  h H (Ex.refl _) _ fun p H1 np e1 hp => ho H1 e1 H1 (Ex.refl _) _ fun H2 e2 => hi H2 (e1.trans e2) H2 (Ex.refl _) _ fun H3 e3 => ⟨o, xs, (j : Int), j, rfl, rfl, ((e1.trans e2).trans e3) o _ hl, ixN_nat hj, k p H3 np ((e1.trans e2).trans e3) ((e2.trans e3) p _ hp)⟩
/-- o.append(a new list) -/
theorem s_appNew {xs ys : List V} {o : Addr} (h : ∀ H1, Ex H H1 → EvL te σ H1 ys) (ho : Ev to σ H (.ref o)) (hl : H o = some (.lst xs)) (hz : xs.length < 100000) (k : ∀ p H1, H p = none → Ex H H1 → H1 p = some (.lst ys) → D.nx σ (upd H1 o (.lst (xs ++ [.ref p])))) : tDrop (tBM K "list" rAppend to (tCons te tNil)) D σ H :=
  ho H (Ex.refl H) _ fun H1 e1 => ⟨Or.inl ⟨rfl, xs, sq_of (e1 o _ hl)⟩, h H1 e1 H1 (Ex.refl _) _ fun p H2 hp e2 h2 => ⟨o, xs, .ref p, rfl, rfl, e2 o _ (e1 o _ hl), sz_lt hz, k p H2 (fresh_back e1 hp) (e1.trans e2) h2⟩⟩
/-- o.pop(j) -/
theorem s_popAt {xs : List V} {o : Addr} {j : Nat} {y : V} (ho : Ev to σ H (.ref o)) (hi : ∀ H1, Ex H H1 → Ev ti σ H1 (.int (j : Int))) (hl : H o = some (.lst xs)) (hj : xs[j]? = some y) (hs : xs.length < 100000) (k : ∀ H1, Ex H H1 → D.nx σ (upd H1 o (.lst (xs.eraseIdx j)))) : tDrop (tBM K "list" rPopAt to (tCons ti tNil)) D σ H :=
  ho H (Ex.refl H) _ fun H1 e1 => ⟨Or.inl ⟨rfl, xs, sq_of (e1 o _ hl)⟩, hi H1 e1 H1 (Ex.refl _) _ fun H2 e2 => by
    have hjl := (List.getElem?_eq_some_iff.mp hj).1
    exact ⟨o, xs, (j : Int), j, y, rfl, rfl, e2 o _ (e1 o _ hl), by omega, by omega, seqI_nat hjl, hj, k H2 (e1.trans e2)⟩⟩
/-- o[0], o[1] = x, y -/
theorem s_swapSub {xs : List V} {b : Addr} {x y : V} (h : EvU te σ H [x, y]) (ho : ∀ H1, Ex H H1 → Ev to σ H1 (.ref b)) (ho2 : ∀ H1 H2, Ex H H1 → Ex (upd H1 b (.lst (xs.set 0 x))) H2 → Ev to σ H2 (.ref b)) (hl : H b = some (.lst xs)) (hj : 2 ≤ xs.length)
    (k : ∀ H1 H2, Ex H H1 → Ex (upd H1 b (.lst (xs.set 0 x))) H2 → D.nx σ (upd H2 b (.lst ((xs.set 0 x).set 1 y)))) : tAsg te (gTup K 2 (gCons (gSub to (tC (.int 0)) rSetL) (gCons (gSub to (tC (.int 1)) rSetL) gNil))) D σ H :=
  h H (Ex.refl _) _ fun T H1 nT e1 hT => ⟨T, [x, y], rfl, st_of hT, rfl, x, [y], rfl, ho H1 e1 H1 (Ex.refl _) _ fun H2 e2 => ⟨b, xs, 0, 0, rfl, rfl, (e1.trans e2) b _ hl, ixN_nat (j := 0) (by omega), y, [], rfl,
    ho2 H2 _ (e1.trans e2) (Ex.refl _) _ (Ex.refl _) _ fun H3 e3 => ⟨b, xs.set 0 x, 1, 1, rfl, rfl, e3 b _ upd_same, ixN_nat (j := 1) (by rw [List.length_set]; omega), rfl, k H2 H3 (e1.trans e2) e3⟩⟩⟩
end
theorem plSq (o i : Bool) (R : List (List Int)) : plD (sqrD o i R) = true := by
  have h : plDA (R.map (rowD i)) = true := by
    induction R with
    | nil => rfl
    | cons r R ih =>
      show (plD (rowD i r) && plDA (R.map (rowD i))) = true
      rw [ih, show plD (rowD i r) = true by cases i <;> exact plD_ints r]; rfl
  cases o <;> exact h
theorem dpSq (o i : Bool) (R : List (List Int)) : (sqrD o i R).depth ≤ 64 := by
  have h : PyData.depthAll (R.map (rowD i)) + 1 ≤ 64 := by
    have := depthAll_le (n := 1) (ds := R.map (rowD i)) (fun d hd => by
      obtain ⟨r, _, rfl⟩ := List.mem_map.mp hd
      cases i <;> (show PyData.depthAll _ + 1 ≤ 1; rw [depthAll_ints]; decide))
    omega
  cases o <;> exact h
theorem pl_of_rv {H H' : Hp} {o : Addr} {bs : List Addr} {n : Nat} {F : Nat → List V} {P : List (List Int)} (A : RV H H' o bs n F) (hl : P.length = n) (hF : ∀ i, i < n → F i = (P.getD i []).map V.int) : PL H H' o bs P :=
  ⟨A.ex, A.no, A.nb, A.is, A.len.trans hl.symm, fun i b hb => by rw [← hF i (by rw [← A.len]; exact (List.getElem?_eq_some_iff.mp hb).1)]; exact A.row i b hb, A.nd, A.ap⟩
theorem q_whenJ {σ : L2.St} {H : Hp} {D : Ends} {tz tu : TS} {t : TT} {b : Bool} (J : L2.St → Hp → Prop) (k : ∀ σ' H', J σ' H' → tz D σ' H') (h : EvT t σ H b) (h1 : (∀ σ' H', J σ' H' → tz D σ' H') → b = true → ∀ H1, Ex H H1 → tu { D with nx := tz D } σ H1) (h2 : b = false → ∀ H1, Ex H H1 → J σ H1) : tSeq (tIfS t tu tNext) tz D σ H :=
  q_when h (h1 k) fun hb H1 e => k _ _ (h2 hb H1 e)
theorem ev_idxNew {K : PySem.W.Frag} {σ : L2.St} {H : Hp} {to tn : TE} {xs : List V} {p : Nat} {z y : V} (h : EvL to σ H xs) (hy : ∀ H1, Ex H H1 → Ev tn σ H1 y) (fy : flatV y = true) (fx : xs.all flatV = true) (hz : xs[p]? = some z) (hzy : eqV z y = true) (hno : ∀ (m : Nat) (z' : V), m < p → xs[m]? = some z' → eqV z' y = false) : Ev (tBM K "list" (rIndex K) to (tCons tn tNil)) σ H (.int (p : Int)) := fun H1 e Q q =>
  h H1 e _ fun b H2 nb e2 hb => ⟨.inl ⟨rfl, xs, sq_of hb⟩, hy H2 (e.trans e2) H2 (Ex.refl _) _ fun H3 e3 => ⟨b, xs, y, p, z, rfl, rfl, sq_of (e3 b _ hb), fy, fx, hz, hzy, hno, q H3 (e2.trans e3)⟩⟩
theorem dpAll_tups {K : PySem.W.Frag} {H : Hp} : ∀ (ts : List Addr) (R : List (List Int)), ts.length = R.length → (∀ (i : Nat) (t : Addr), ts[i]? = some t → H t = some (.tup ((R.getD i []).map V.int))) → DpAll K H (ts.map V.ref) (R.map (rowD true))
  | [], [], _, _ => .nil
  | [], _ :: _, h, _ => nomatch h
  | _ :: _, [], h, _ => nomatch h
  | t :: ts, r :: R, h, g => .cons (.tup (st_of (g 0 t rfl)) (dpAll_ints r)) (dpAll_tups ts R (Nat.succ.inj h) fun i u hu => g (i + 1) u hu)
theorem swap_perm01 {n : Nat} {row : List Int} (h : row.Perm (iota n)) (h2 : 2 ≤ n) : ((row.set 0 (row.getD 1 0)).set 1 (row.getD 0 0)).Perm (iota n) := by
  have hl := h.length_eq.trans (iota_len n)
  match row, hl, h with
  | [], hl, _ => simp at hl; omega
  | [a], hl, _ => simp at hl; omega
  | a :: b :: t, _, h => exact (List.Perm.swap a b t).trans h
theorem s_asgU2 {σ : L2.St} {H : Hp} {D : Ends} {te : TE} {xs : List V} {i : Nat} (h : EvU te σ H xs) (k : ∀ p H1, H p = none → Ex H H1 → H1 p = some (.tup xs) → D.nx (σ.set i (some (.ref p))) H1) : tAsg te (gName i) D σ H := h H (Ex.refl H) _ k
theorem col_list {n : Nat} {P : List (List Int)} (hl : P.length = n) (r : Nat) : (List.range n).map (fun k => V.int ((P.getD k []).getD r 0)) = (colAt P r).map V.int := by
  subst hl
  unfold colAt
  rw [List.map_map]
  apply List.ext_getElem?
  intro k
  rw [List.getElem?_map, List.getElem?_map]
  by_cases hk : k < P.length
  · rw [List.getElem?_range hk, List.getElem?_eq_getElem hk]
    show some (V.int ((P.getD k []).getD r 0)) = some (V.int ((P[k]).getD r 0))
    rw [getD_nil (List.getElem?_eq_getElem hk)]
  · rw [List.getElem?_eq_none (by rw [List.length_range]; omega), List.getElem?_eq_none (by omega)]; rfl

end
end My
namespace My
open PySem PySem.Spec PyProof.Rows L2 Evl Mi Mm
abbrev s_law : Stmt := top 29
theorem sc_law : FnScope ["script", "numbers", "square", "other", "n", "parts", "found", "order", "choice", "at", "due", "rows", "r", "sign", "k", "row", "columns", "c"] ["script"] (defScope s_law) := ⟨rfl, rfl, rfl, by decide +kernel, rfl, by decide +kernel, by decide +kernel⟩
section
variable {P : Program} {w : World} {K : PySem.W.Frag} {mg : Str → Option Value} {base : Heap}
def spLaw (K : PySem.W.Frag) (tp : Addr) : Sp := fun vs H Q _ => ∃ (a : Addr) (ns : List Int), vs = [.ref a] ∧ SqL K H a (ns.map V.int) ∧ ns.length ≤ 63 ∧ H tp = some (tabO tp) ∧ ∀ H', Ex H H' → Q (.bl true) H'
set_option maxHeartbeats 8000000 in
theorem ok_law {tp Cq f : Addr} {fd : FuncData} (F : Fun K "law" "law" s_law f fd) (B : Bt mg) (c__law_numbers : Cd P w K mg base 2 "_law_numbers" (spNumbers K)) (c__law_two : Cd P w K mg base 3 "_law_two" (spTwo K)) (c_are_mates : Cd P w K mg base 5 "are_mates" (spMat K tp)) (c_parts_of : Cd P w K mg base 6 "parts_of" (spPO K tp)) (c_mate_by : Ce P w K mg base 4 "mate_by" (spMB K tp Cq)) (c__law_shuffled : Cd P w K mg base 1 "_law_shuffled" (spShuf K)) (c__law_pick : Cd P w K mg base 1 "_law_pick" (spPick K)) (c__law_is_parting : Cd P w K mg base 1 "_law_is_parting" (spPt K)) (c__law_told : Cd P w K mg base 5 "_law_told" (spTdM K tp)) : FnG P w K mg base L2.CX0 7 f fd ["script"] (spLaw K tp) := by
  refine F.okG sc_law (fun vs H Q E h => ?_) (fun cdv A gd outer s H vs Q E hr h => ?_)
  · obtain ⟨a, ns, rfl, _⟩ := h; rfl
  · obtain ⟨sa, ns, rfl, hS, hl, hT, q⟩ := h
    refine ⟨_, (pss_cons (ps_set (i := 1) sc_law.nd rfl (Or.inl rfl) (pe_cd c__law_numbers hr (by first | decide | omega) (by rfl) (pa_cons (pv 0) (pa_cons pe_int pa_nil))))
      (pss_cons (ps_asg (pe_cd c__law_two hr (by first | decide | omega) (by rfl) (pa_cons (pv 1) (pa_cons pe_int pa_nil))) (pg_lstK (K := K) (n := 2) rfl rfl (pgs_cons (pg_name (i := 2) sc_law.nd rfl (Or.inl rfl)) (pgs_cons (pg_name (i := 3) sc_law.nd rfl (Or.inr rfl)) pgs_nil))))
      (pss_cons (ps_set (i := 4) sc_law.nd rfl (Or.inl rfl) (pe_callB (call_lenK (K := K) rfl) (by rfl) B.len PySem.boot_len (pa_cons (pv 2) pa_nil)))
      (pss_cons (ps_if (pt_not (pt_val (pe_cd c_are_mates hr (by first | decide | omega) (by rfl) (pa_cons (pv 2) (pa_cons (pv 3) pa_nil))))) (pss_one (ps_ret pe_bl)) pss_nil)
      (pss_cons (ps_set (i := 5) sc_law.nd rfl (Or.inr rfl) (pe_lc (own := [("sign", 13)]) rfl sc_law.nd (pi_range1 (by rfl) B.range (pa_cons (pv 4) pa_nil)) (blkOk_by (own := [("sign", 13)]) (N := ["script", "numbers", "square", "other", "n", "parts", "found", "order", "choice", "at", "due", "rows", "r", "sign", "k", "row", "columns", "c"]) (sc := defScope s_law) (by decide +kernel)) (fun _ _ _ _ _ => (pg_name (i := 13) sc_law.nd rfl (Or.inr rfl))) (fun _ _ _ _ _ => pts_nil) (fun _ _ _ _ _ => (pe_callTy (call_tupleK (K := K) rfl) (by rfl) B.tuple boot_tuple (pa_cons (pe_lc (own := [("row", 15)]) rfl sc_law.nd (pi_tupK (K := K) rfl (pv 3)) (blkOk_in (own := [("row", 15)]) (N := ["script", "numbers", "square", "other", "n", "parts", "found", "order", "choice", "at", "due", "rows", "r", "sign", "k", "row", "columns", "c"]) (sc := defScope s_law) rfl rfl (by decide +kernel)) (fun _ _ _ _ _ => (pg_name (i := 15) sc_law.nd rfl (Or.inl rfl))) (fun _ _ _ _ _ => pts_nil) (fun _ _ _ _ _ => (pe_idxF (K := K) rfl (pv 15) (pa_cons (pv 13) pa_nil)))) pa_nil)))))
      (pss_cons (ps_set (i := 6) sc_law.nd rfl (Or.inl rfl) (pe_cd c_parts_of hr (by first | decide | omega) (by rfl) (pa_cons (pv 2) (pa_cons (pe_lc (own := [("row", 15)]) rfl sc_law.nd (pi_tupK (K := K) rfl (pv 3)) (blkOk_by (own := [("row", 15)]) (N := ["script", "numbers", "square", "other", "n", "parts", "found", "order", "choice", "at", "due", "rows", "r", "sign", "k", "row", "columns", "c"]) (sc := defScope s_law) (by decide +kernel)) (fun _ _ _ _ _ => (pg_name (i := 15) sc_law.nd rfl (Or.inl rfl))) (fun _ _ _ _ _ => pts_nil) (fun _ _ _ _ _ => (pe_callTy (call_listK (K := K) rfl) (by rfl) B.list boot_list (pa_cons (pv 15) pa_nil)))) pa_nil))))
      (pss_cons (ps_if (pw_or (pt_not (pt_val (pe_callB (call_isiK2 (K := K) rfl) (by rfl) B.isinstance boot_isinstance (pa_cons (pv 6) (pa_cons (pe_bltn (v := V.ty "list") (by rfl) B.list boot_list rfl) pa_nil))))) (pw_or (pt_cmpR (op_neDK (K := K) rfl (hu64 hr)) (pv 6) (pv 5) (nomark _)) (pw_or1 (pt_cmpR (op_neDK (K := K) rfl (hu64 hr)) (pe_ce0 c_mate_by hr (by first | decide | omega) (by rfl) (pa_cons (pv 2) (pa_cons (pv 6) pa_nil))) (pv 3) (nomark _))))).pt (pss_one (ps_ret pe_bl)) pss_nil)
      (pss_cons (ps_set (i := 7) sc_law.nd rfl (Or.inl rfl) (pe_cd c__law_shuffled hr (by first | decide | omega) (by rfl) (pa_cons (pv 1) (pa_cons pe_int (pa_cons (pv 4) pa_nil)))))
      (pss_cons (ps_set (i := 5) sc_law.nd rfl (Or.inr rfl) (pe_lc (own := [("k", 14)]) rfl sc_law.nd (pi_listK (K := K) rfl (pv 7)) (blkOk_by (own := [("k", 14)]) (N := ["script", "numbers", "square", "other", "n", "parts", "found", "order", "choice", "at", "due", "rows", "r", "sign", "k", "row", "columns", "c"]) (sc := defScope s_law) (by decide +kernel)) (fun _ _ _ _ _ => (pg_name (i := 14) sc_law.nd rfl (Or.inl rfl))) (fun _ _ _ _ _ => pts_nil) (fun _ _ _ _ _ => (pe_callTy (call_listK (K := K) rfl) (by rfl) B.list boot_list (pa_cons (pe_ix (ix_listK (K := K) rfl) (pv 5) (pv 14) (fun _ _ => rfl)) pa_nil)))))
      (pss_cons (ps_set (i := 8) sc_law.nd rfl (Or.inl rfl) (pe_cd c__law_pick hr (by first | decide | omega) (by rfl) (pa_cons (pv 1) (pa_cons pe_int (pa_cons pe_int pa_nil)))))
      (pss_cons (ps_set (i := 9) sc_law.nd rfl (Or.inl rfl) (pe_cd c__law_pick hr (by first | decide | omega) (by rfl) (pa_cons (pv 1) (pa_cons pe_int (pa_cons (pv 4) pa_nil)))))
      (pss_cons (ps_if (pt_cmpR op_eq (pv 8) pe_int (nomark _)) (pss_one (ps_expr (pe_bm PySem.F.plainAttrs_list PySem.F.slot_list_pop PySem.F.type_list_pop mt_popAt (pv 5) (pa_cons (pv 9) pa_nil)))) pss_nil)
      (pss_cons (ps_if (pt_cmpR op_eq (pv 8) pe_int (nomark _)) (pss_one (ps_asg (pe_callTy (call_listK (K := K) rfl) (by rfl) B.list boot_list (pa_cons (pe_ix (ix_listK (K := K) rfl) (pv 5) (pe_cd c__law_pick hr (by first | decide | omega) (by rfl) (pa_cons (pv 1) (pa_cons pe_int (pa_cons (pv 4) pa_nil)))) (fun _ _ => rfl)) pa_nil)) (pg_sub (pv 5) (pv 9) set_list))) pss_nil)
      (pss_cons (ps_if (pt_cmpR op_eq (pv 8) pe_int (nomark _)) (pss_one (ps_asg (pe_tup (pa_cons (pe_ix (ix_listK (K := K) rfl) (pe_ix (ix_listK (K := K) rfl) (pv 5) (pv 9) (fun _ _ => rfl)) pe_int (fun _ _ => rfl)) (pa_cons (pe_ix (ix_listK (K := K) rfl) (pe_ix (ix_listK (K := K) rfl) (pv 5) (pv 9) (fun _ _ => rfl)) pe_int (fun _ _ => rfl)) pa_nil))) (pg_tupK (K := K) (n := 2) rfl rfl (pgs_cons (pg_sub (pe_ix (ix_listK (K := K) rfl) (pv 5) (pv 9) (fun _ _ => rfl)) pe_int set_list) (pgs_cons (pg_sub (pe_ix (ix_listK (K := K) rfl) (pv 5) (pv 9) (fun _ _ => rfl)) pe_int set_list) pgs_nil))))) pss_nil)
      (pss_cons (ps_if (pt_cmpR op_eq (pv 8) pe_int (nomark _)) (pss_one (ps_expr (pe_bm PySem.F.plainAttrs_list PySem.F.slot_list_append PySem.F.type_list_append mt_append (pv 5) (pa_cons (pe_callTy (call_listK (K := K) rfl) (by rfl) B.list boot_list (pa_cons (pe_ix (ix_listK (K := K) rfl) (pv 5) (pv 9) (fun _ _ => rfl)) pa_nil)) pa_nil)))) pss_nil)
      (pss_cons (ps_set (i := 10) sc_law.nd rfl (Or.inl rfl) pe_str)
      (pss_cons (ps_if (pt_truth (pe_cd c__law_is_parting hr (by first | decide | omega) (by rfl) (pa_cons (pv 2) (pa_cons (pv 5) pa_nil))) (fun _ => rfl)) (pss_cons (ps_set (i := 11) sc_law.nd rfl (Or.inl rfl) (pe_lst pa_nil))
          (pss_cons (ps_for PassesOwn.never rfl (pi_range1 (by rfl) B.range (pa_cons (pv 4) pa_nil)) (pg_name (i := 12) sc_law.nd rfl (Or.inr rfl)) (pss_one (ps_expr (pe_bm PySem.F.plainAttrs_list PySem.F.slot_list_append PySem.F.type_list_append mt_append (pv 11) (pa_cons (pe_callTy (call_tupleK (K := K) rfl) (by rfl) B.tuple boot_tuple (pa_cons (pe_lc (own := [("c", 17)]) rfl sc_law.nd (pi_range1 (by rfl) B.range (pa_cons (pv 4) pa_nil)) (blkOk_by (own := [("c", 17)]) (N := ["script", "numbers", "square", "other", "n", "parts", "found", "order", "choice", "at", "due", "rows", "r", "sign", "k", "row", "columns", "c"]) (sc := defScope s_law) (by decide +kernel)) (fun _ _ _ _ _ => (pg_name (i := 17) sc_law.nd rfl (Or.inl rfl))) (fun _ _ _ _ _ => pts_nil) (fun _ _ _ _ _ => (pe_idxLc (K := K) rfl (pe_lc (own := [("columns", 16)]) rfl sc_law.nd (pi_listK (K := K) rfl (pv 5)) (blkOk_in (own := [("columns", 16)]) (N := ["script", "numbers", "square", "other", "n", "parts", "found", "order", "choice", "at", "due", "rows", "r", "sign", "k", "row", "columns", "c"]) (sc := defScope s_law) rfl rfl (by decide +kernel)) (fun _ _ _ _ _ => (pg_name (i := 16) sc_law.nd rfl (Or.inl rfl))) (fun _ _ _ _ _ => pts_nil) (fun _ _ _ _ _ => (pe_ix (ix_listK (K := K) rfl) (pv 16) (pv 12) (fun _ _ => rfl)))) (pa_cons (pv 17) pa_nil)))) pa_nil)) pa_nil)))))
          (pss_one (ps_set (i := 10) sc_law.nd rfl (Or.inl rfl) (pe_callTy (call_tupleK (K := K) rfl) (by rfl) B.tuple boot_tuple (pa_cons (pv 11) pa_nil)))))) pss_nil)
      (pss_one (ps_ret (pe_cmpR (op_eqDK (K := K) rfl (hu64 hr)) (pe_cd c__law_told hr (by first | decide | omega) (by rfl) (pa_cons (pv 2) (pa_cons (pe_lc (own := [("columns", 16)]) rfl sc_law.nd (pi_listK (K := K) rfl (pv 5)) (blkOk_by (own := [("columns", 16)]) (N := ["script", "numbers", "square", "other", "n", "parts", "found", "order", "choice", "at", "due", "rows", "r", "sign", "k", "row", "columns", "c"]) (sc := defScope s_law) (by decide +kernel)) (fun _ _ _ _ _ => (pg_name (i := 16) sc_law.nd rfl (Or.inl rfl))) (fun _ _ _ _ _ => pts_nil) (fun _ _ _ _ _ => (pe_callTy (call_tupleK (K := K) rfl) (by rfl) B.tuple boot_tuple (pa_cons (pv 16) pa_nil)))) pa_nil))) (pv 10) (nomark _))))))))))))))))))))), ?_⟩
    refine q_asgS (evs_call (vs := [.ref sa, .int 70]) (ea_cons (ev_var rfl) (ea_cons ev_c ea_nil)) fun H1 e Q q E => ⟨sa, ns, 70, rfl, ex_l e hS, by decide, q⟩) fun nu H1 ms nnu e1 hnu hml hms => ?_
    have hml2 : ms.length = 70 := hml
    refine ⟨.ref nu, rfl, nu, ms, rfl, sq_of hnu, by omega, fun n A R mo us H2 hn LA LR hRp nmo e2 hmo hus hfz => ?_⟩
    obtain ⟨v1, v2, rfl⟩ : ∃ v1 v2, us = [v1, v2] := by
      have h5 := dpAll_len _ _ hus
      match us, h5 with
      | [v1, v2], _ => exact ⟨v1, v2, rfl⟩
    have hd1 : Dp K H2 v1 (sqrD true true A) := by
      obtain ⟨d, k1, k2⟩ := dpAll_get _ _ 0 v1 (dpAll_mono (rm1_ex H2 mo) _ _ hus) rfl
      cases k1; exact k2
    have hd2 : Dp K H2 v2 (sqrD true true R) := by
      obtain ⟨d, k1, k2⟩ := dpAll_get _ _ 1 v2 (dpAll_mono (rm1_ex H2 mo) _ _ hus) rfl
      cases k1; exact k2
    have hf2 : FrzS K H2 v2 R := (hfz.2 1 v2 R rfl rfl).mono (rm1_ex H2 mo)
    clear hus hfz
    refine ⟨mo, [v1, v2], rfl, sq_of hmo, rfl, v1, [v2], rfl, v2, [], rfl, rfl, ?_⟩
    have e02 := e1.trans e2
    have hnu2 := e2 nu _ hnu
    have hn37 : 3 ≤ n ∧ n ≤ 7 := by unfold oddN at hn; omega
    obtain ⟨ra, rws, rfl, hra, hrd, hrf⟩ := hf2
    have hrl : rws.length = n := by rw [dpAll_len _ _ hrd, List.length_map, LR.len]
    refine q_asg (v := .int (n : Int)) (ev_is (ev_lenD (t := true) (evd_of (ev_var rfl) hd1)) (by rw [List.length_map, LA.len])) fun H3 e3 => ?_
    have e03 := e02.trans e3
    refine q_when (b := false) (et_is (et_not (a := true) (et_B (ev_call (vs := [v1, .ref ra]) (z := .bl true) (ea_cons (ev_var rfl) (ea_cons (ev_var rfl) ea_nil)) fun H4 e4 Q q E => ⟨v1, .ref ra, n, A, R, true, true, true, true, none, rfl, ⟨dp_mono (e3.trans e4) _ _ hd1, dp_mono (e3.trans e4) _ _ hd2, LA, LR, by omega, by omega⟩, (e03.trans e4) tp _ hT, hRp, q⟩))) rfl) (fun z => by cases z) fun _ H4 e4 => ?_
    have e24 := e3.trans e4
    have hMP := mPart_ok LA LR hRp
    have hNM := num_mate LA LR hRp
    have hPD : partD n R = sqrD false true (mPart n R) := by
      unfold partD sqrD mPart
      rw [List.map_map]; rfl
    -- the parts, told here
    refine q_asgQ (K := K) (d := partD n R) (evq_of ?_) fun pv H5 e5 hpv => ?_
    · have h := evd_lcR (K := K) (H := H4) (n := (n : Int)) (te := tVar 4) (σ := [some (.ref sa), some (.ref nu), some v1, some (.ref ra), some (.int (n : Int)), none, none, none, none, none, none, none, none, none, none, none, none, none]) (j := 13) (vs := [13]) (ta := tTupO K (tLc (iTup K (tVar 3)) (gName 15) tYes (tMG tyFrz (rIndexT K) (tVar 15) (tCons (tVar 13) tNil)) [15])) (fun s => .tuple (pints (colsIn n R s))) (ev_var rfl) (by omega) (fun _ => rfl) fun s hs => ?_
      · rw [Int.toNat_natCast] at h; exact h
      · have hs2 : s < n := by omega
        refine evd_rowT (r := colsIn n R s) (evd_LI (el_is (el_lcG (n := rws.length) (fun r => V.int ((idx R r s : Nat) : Int)) (fun Hx ex => gets_tup (ev_var rfl) (ex_t (e24.trans ex) hra)) (walk_tup (xs := rws)) (fun H' ex => ex_t (e24.trans ex) hra) (by omega) (fun i H1 x H2 y => y.1) (fun _ => rfl) (fun r x Hx hr1 ex hy => ?_)) (by rw [hrl]; unfold colsIn; rw [List.map_map]; rfl)))
        obtain ⟨_, hx⟩ := hy
        have hr : r < n := by omega
        have hFr := (hrf x (List.mem_of_getElem? hx)).mono (e24.trans ex)
        obtain ⟨d, k1, k2⟩ := dpAll_get _ _ _ _ hrd hx
        rw [rows_get (by rw [LR.len]; exact hr)] at k1
        cases k1
        obtain ⟨b, rfl, hb⟩ := dp_rowS k2
        have hm : (s : Int) ∈ R.getD r [] := (LR.row r hr).mem_iff.mpr (iota_mem.mpr (by omega))
        obtain ⟨g1, g2⟩ := idx_spec _ _ hm
        exact ev_idxF (ev_var rfl) hFr (ex_t (e24.trans ex) hb) (ev_var rfl) g1 g2
    have e25 := e24.trans e5
    refine q_asgQ (K := K) (d := partD n R) (evq_callP (ds := [sqrD true true A, sqrD false false R]) (evda_cons (evd_of (ev_var rfl) (dp_mono e25 _ _ hd1)) (evda_cons ?_ evda_nil)) fun vs H6 e6 hvs Q q => ?_) fun fv H6 e6 hfv => ?_
    · have h := evd_lcT (K := K) (H := H5) (ds := R.map (rowD true)) (a := ra) (tl := tVar 3) (j := 15) (vs := [15]) (ta := tCB (fun vs H Q => ∃ p ys, vs = [V.ref p] ∧ (SqL K H p ys ∨ SqT K H p ys) ∧ ∀ l, H l = none → Q (.ref l) (upd H l (.lst ys))) (tCons (tVar 15) tNil)) (σ := [some (.ref sa), some (.ref nu), some v1, some (.ref ra), some (.int (n : Int)), some pv, none, none, none, none, none, none, none, none, none, none, none, none]) (fun r => rowD false (R.getD r [])) (ev_var rfl) (dp_mono e25 _ _ hd2) (by rw [List.length_map, LR.len]; omega) (fun _ => rfl) (fun r x dx hdx hx => ?_)
      · rw [List.length_map] at h
        have he : (List.range R.length).map (fun r => rowD false (R.getD r [])) = R.map (rowD false) := by
          apply List.ext_getElem?
          intro r
          rw [List.getElem?_map, List.getElem?_map]
          by_cases hr : r < R.length
          · rw [List.getElem?_range hr, List.getElem?_eq_getElem hr]
            show some (rowD false (R.getD r [])) = _
            rw [List.getD_eq_getElem?_getD, List.getElem?_eq_getElem hr]; rfl
          · rw [List.getElem?_eq_none (by rw [List.length_range]; omega), List.getElem?_eq_none (by omega)]; rfl
        rw [he] at h
        exact h
      · have hr : r < R.length := by have := (List.getElem?_eq_some_iff.mp hdx).1; rwa [List.length_map] at this
        rw [rows_get hr] at hdx
        cases hdx
        obtain ⟨b, rfl, hb⟩ := dp_rowS hx
        exact evd_LI (el_listOf (ev_var rfl) (.inr hb))
    · cases hvs with
      | cons a b =>
        cases b with
        | cons b c =>
          cases c
          exact ⟨_, _, n, A, R, true, true, rfl, ⟨a, b, LA, LR, by omega, by omega⟩, ((e03.trans e4).trans (e5.trans e6)) tp _ hT, hRp, q⟩
    have e26 := e25.trans e6
    have e06 := e03.trans (e4.trans (e5.trans e6))
    rw [hPD] at hfv hpv
    obtain ⟨fa, rfl⟩ := dp_refS (t := false) hfv
    obtain ⟨fus, hfu, _⟩ := dp_lstE hfv
    have hml0 : ∀ p ∈ mPart n R, p.length < 64 := fun p hp => by
      have := (trB_perm (hMP.2.1 p hp)).length_eq
      rw [iota_len] at this; omega
    have hpv6 := dp_mono e6 _ _ hpv
    refine q_when (b := false) (et_is (et_or (a := false) (b := false) (et_is (et_not (a := true) (et_B (ev_isiL1 (ev_var rfl) hfu (by decide +kernel)))) rfl) fun _ => et_is (et_or (a := false) (b := false) (et_is (et_test (ev_neD (K := K) (b := true) (evd_of (ev_var rfl) hfv) (evd_of (ev_var rfl) hpv6) (plSq _ _ _) (plSq _ _ _) (dpSq _ _ _) (dpSq _ _ _) ⟨fun _ => rfl, fun _ => rfl⟩)) rfl) fun _ =>
      et_is (et_test (ev_neQ (K := K) (b := true) (d := sqrD true true R) (e := sqrD true true R) (evq_callP (ds := [sqrD true true A, sqrD false true (mPart n R)]) (evda_cons (evd_of (ev_var rfl) (dp_mono e26 _ _ hd1)) (evda_cons (evd_of (ev_var rfl) hfv) evda_nil)) fun vs H7 e7 hvs Q q => ?_) (fun H7 e7 => evd_of (ev_var rfl) (dp_mono (e26.trans e7) _ _ hd2)) (plSq _ _ _) (plSq _ _ _) (dpSq _ _ _) (dpSq _ _ _) ⟨fun _ => rfl, fun _ => rfl⟩)) rfl) rfl) rfl) (fun z => by cases z) fun _ H7 e7 => ?_
    · cases hvs with
      | cons a b =>
        cases b with
        | cons b c =>
          cases c
          exact ⟨_, n, A, true, true, _, mPart n R, rfl, a, LA, by omega, by omega, (e06.trans e7) tp _ hT, b, hml0, by rw [hMP.1]; omega, fun _ => by rw [hNM]; exact q, fun z => absurd hMP z⟩
    have e27 := e26.trans e7
    -- the parts in another order
    refine q_callA (ea_cons (ev_var rfl) (ea_cons ev_c (ea_cons (ev_var rfl) ea_nil))) fun H8 e8 => ⟨nu, ms, 46, n, rfl, sq_of ((e27.trans e8) nu _ hnu2), by omega, by omega, fun p1 H9 s1 _ e9 hp1 g1 => ?_⟩
    have e29 := e27.trans (e8.trans e9)
    have l1 := g1.length_eq.trans (iota_len n)
    have hpv9 := dp_mono (e7.trans (e8.trans e9)) _ _ hpv6
    obtain ⟨pa, us, rfl, hPr⟩ := prt_of hpv9 hml0 (by rw [hMP.1]; omega)
    obtain ⟨P1, hP1⟩ : ∃ P1, P1 = s1.map fun x => (mPart n R).getD x.toNat [] := ⟨_, rfl⟩
    have hP1l : P1.length = n := by rw [hP1, List.length_map, l1]
    have hP1p : ∀ p ∈ P1, p.Perm (iota n) := fun p hp => by
      rw [hP1] at hp
      obtain ⟨x, hx, rfl⟩ := List.mem_map.mp hp
      have := iota_mem.mp (g1.mem_iff.mp hx)
      have hxl : x.toNat < (mPart n R).length := by rw [hMP.1]; omega
      rw [List.getD_eq_getElem?_getD, List.getElem?_eq_getElem hxl]
      exact trB_perm (hMP.2.1 _ (List.getElem_mem hxl))
    refine q_rowsV (n := (s1.map V.int).length) (fun k => (P1.getD k []).map V.int) (gets_list (ev_var rfl) (sq_of hp1)) (walk_list (xs := s1.map V.int)) (fun Hx ex => sq_of (ex _ _ hp1)) (fun i Hx x Hy y => y.1) (by rw [List.length_map, l1]; omega) (fun _ => rfl) (fun k x Hx hk ex y => ?_) fun o bs H10 hRV => ?_
    · obtain ⟨_, hx⟩ := y
      obtain ⟨z, hz, rfl⟩ := ints_get hx
      have hz2 := iota_mem.mp (g1.mem_iff.mp (List.mem_of_getElem? hz))
      have hzl : z.toNat < us.length := by rw [hPr.ln, hMP.1]; omega
      have hu := List.getElem?_eq_getElem hzl
      obtain ⟨qk, hqe, hq⟩ := hPr.at_ _ _ hu
      rw [hqe] at hu
      have hP1k : P1.getD k [] = (mPart n R).getD z.toNat [] := by rw [hP1, List.getD_eq_getElem?_getD, List.getElem?_map, hz]; rfl
      rw [hP1k]
      exact el_listOf (ev_op (ev_var rfl) (ev_natI (ev_var rfl) hz2.1) (rv_ixLn (ex_l ex hPr.sq) hu)) (.inr (ex_t ex hq))
    have PL0 := pl_of_rv hRV (by rw [List.length_map, hP1l, l1]) fun i hi => rfl
    clear hRV
    have e210 := e29.trans PL0.ex
    have nuF : ∀ {Hx : Hp}, Ex H9 Hx → Hx nu = some (.lst (ms.map V.int)) := fun ex => (e29.trans ex) nu _ hnu2
    have pick : ∀ {σ : L2.St} {Hx : Hp} {t2 t3 : TE} {i : Nat} {m : Int} {E : XK}, Ex H9 Hx → σ[1]? = some (some (.ref nu)) → Ev t2 σ Hx (.int (i : Int)) → Ev t3 σ Hx (.int m) → i < 70 → 0 < m → Ev (tCall (spPick K) [] E (tCons (tVar 1) (tCons t2 (tCons t3 tNil)))) σ Hx (.int (ms.getD i 0 % m)) := fun {σ Hx t2 t3 i m E} ex hσ h2 h3 hi hm =>
      ev_call (vs := [.ref nu, .int (i : Int), .int m]) (ea_cons (ev_var hσ) (ea_cons h2 (ea_cons h3 ea_nil))) fun H4 e4 Q q E => ⟨nu, ms, i, m, rfl, sq_of (nuF (ex.trans e4)), by omega, hm, q⟩
    have modN : ∀ z : Int, ∃ j : Nat, z % (n : Int) = (j : Int) ∧ j < n := fun z => by
      have h1 := Int.emod_nonneg z (b := (n : Int)) (by omega)
      have h2 := Int.emod_lt_of_pos z (b := (n : Int)) (by omega)
      exact ⟨(z % (n : Int)).toNat, by omega, by omega⟩
    obtain ⟨ch, hch⟩ : ∃ ch : Int, ch = ms.getD 56 0 % 6 := ⟨_, rfl⟩
    refine q_asg (v := .int ch) (ev_is (pick (i := 56) (m := 6) PL0.ex rfl ev_c ev_c (by decide) (by decide)) (by rw [hch])) fun H11 e11 => ?_
    obtain ⟨at_, hat, hatn⟩ := modN (ms.getD 57 0)
    refine q_asg (v := .int (at_ : Int)) (ev_is (pick (i := 57) (m := (n : Int)) (PL0.ex.trans e11) rfl ev_c (ev_var rfl) (by decide) (by omega)) (congrArg V.int hat)) fun H12 e12 => ?_
    have PL2 := PL0.up (e11.trans e12)
    have perm_at : ∀ {P : List (List Int)} {k : Nat}, (∀ p ∈ P, p.Perm (iota n)) → k < P.length → (P.getD k []).Perm (iota n) := fun {P k} h hk => by
      rw [List.getD_eq_getElem?_getD, List.getElem?_eq_getElem hk]; exact h _ (List.getElem_mem hk)
    have chE : ∀ {m : Int}, decide (V.int ch = V.int m) = true → ch = m := fun h => V.int.inj (of_decide_eq_true h)
    refine q_whenJ (fun σ' H' => ∃ (bs : List Addr) (P : List (List Int)), σ' = [some (.ref sa), some (.ref nu), some v1, some (.ref ra), some (.int (n : Int)), some (.ref o), some (.ref fa), some (.ref p1), some (.int ch), some (.int (at_ : Int)), none, none, none, none, none, none, none, none] ∧ PL H9 H' o bs P ∧ (∀ p ∈ P, p.Perm (iota n)) ∧ P.length ≤ n ∧ (ch ≠ 1 → P.length = n)) ?_ (et_test (ev_op (ev_var rfl) ev_c (rv_eq rfl))) (fun kk hb H13 e13 => ?_) (fun hb H13 e13 => ⟨bs, P1, rfl, PL2.up e13, hP1p, by omega, fun _ => hP1l⟩)
    rotate_left
    · have P13 := PL2.up e13
      obtain ⟨b, hb1, _⟩ := P13.at_ (i := at_) (by omega)
      refine s_popAt (y := .ref b) (ev_var rfl) (fun _ _ => ev_var rfl) P13.is (by rw [List.getElem?_map, hb1]; rfl) (by rw [List.length_map, P13.ln]; omega) fun H14 e14 => ?_
      exact kk _ _ ⟨_, _, rfl, (P13.up e14).pop (by omega), fun p hp => hP1p p (List.mem_of_mem_eraseIdx hp), by rw [List.length_eraseIdx]; split <;> omega, fun z => absurd (chE hb) z⟩
    rintro _ H13 ⟨bs3, P3, rfl, P13, hp3, hl3, hn3⟩
    refine q_whenJ (fun σ' H' => ∃ (bs : List Addr) (P : List (List Int)), σ' = [some (.ref sa), some (.ref nu), some v1, some (.ref ra), some (.int (n : Int)), some (.ref o), some (.ref fa), some (.ref p1), some (.int ch), some (.int (at_ : Int)), none, none, none, none, none, none, none, none] ∧ PL H9 H' o bs P ∧ (∀ p ∈ P, p.Perm (iota n)) ∧ P.length ≤ n ∧ (ch ≠ 1 → P.length = n)) ?_ (et_test (ev_op (ev_var rfl) ev_c (rv_eq rfl))) (fun kk hb H14 e14 => ?_) (fun hb H14 e14 => ⟨bs3, P3, rfl, P13.up e14, hp3, hl3, hn3⟩)
    rotate_left
    · have P14 := P13.up e14
      have hlen : P3.length = n := hn3 (by rw [chE hb]; decide)
      obtain ⟨j, hj, hjn⟩ := modN (ms.getD 58 0)
      obtain ⟨b, hb1, hb2⟩ := P14.at_ (i := j) (by omega)
      refine s_subNew (el_listOf (ev_op (ev_var rfl) (ev_is (pick (i := 58) (m := (n : Int)) P14.ex rfl ev_c (ev_var rfl) (by decide) (by omega)) (congrArg V.int hj)) (rv_ixLn (sq_of P14.is) (by rw [List.getElem?_map, hb1]; rfl))) (.inl (sq_of hb2))) (fun _ _ => ev_var rfl) (fun _ _ => ev_var rfl) P14.is (by rw [List.length_map, P14.ln]; omega) fun np H15 hnp e15 hnl => ?_
      obtain ⟨f1, f2, f3⟩ := P14.fresh hnp
      refine kk _ _ ⟨_, _, rfl, (P14.up e15).set (by omega) f1 f2 f3 hnl, fun p hp => ?_, by rw [List.length_set]; omega, fun _ => by rw [List.length_set]; exact hlen⟩
      rcases List.mem_or_eq_of_mem_set hp with h | h
      · exact hp3 p h
      · rw [h]; exact perm_at hp3 (by omega)
    rintro _ H14 ⟨bs4, P4, rfl, P14, hp4, hl4, hn4⟩
    refine q_whenJ (fun σ' H' => ∃ (bs : List Addr) (P : List (List Int)), σ' = [some (.ref sa), some (.ref nu), some v1, some (.ref ra), some (.int (n : Int)), some (.ref o), some (.ref fa), some (.ref p1), some (.int ch), some (.int (at_ : Int)), none, none, none, none, none, none, none, none] ∧ PL H9 H' o bs P ∧ (∀ p ∈ P, p.Perm (iota n)) ∧ P.length ≤ n ∧ (ch ≠ 1 → P.length = n)) ?_ (et_test (ev_op (ev_var rfl) ev_c (rv_eq rfl))) (fun kk hb H15 e15 => ?_) (fun hb H15 e15 => ⟨bs4, P4, rfl, P14.up e15, hp4, hl4, hn4⟩)
    rotate_left
    · have P15 := P14.up e15
      have hlen : P4.length = n := hn4 (by rw [chE hb]; decide)
      obtain ⟨b, hb1, hb2⟩ := P15.at_ (i := at_) (by omega)
      have hpm := perm_at (k := at_) hp4 (by omega)
      have hrl := hpm.length_eq.trans (iota_len n)
      have hbo : o ≠ b := fun z => P15.ap (by rw [z]; exact List.mem_of_getElem? hb1)
      have rowE : ∀ {σ : L2.St} {Hx : Hp}, Hx o = some (.lst (bs4.map V.ref)) → σ[5]? = some (some (.ref o)) → σ[9]? = some (some (.int (at_ : Int))) → Ev (tOp (rIxL K) (tVar 5) (tVar 9)) σ Hx (.ref b) := fun ho h5 h9 => ev_op (ev_var h5) (ev_var h9) (rv_ixLn (sq_of ho) (by rw [List.getElem?_map, hb1]; rfl))
      refine s_swapSub (K := K) (x := .int ((P4.getD at_ []).getD 1 0)) (y := .int ((P4.getD at_ []).getD 0 0)) (eu_tup (ea_cons (ev_op (rowE P15.is rfl rfl) ev_c (rv_ixLn (j := 1) (sq_of hb2) (ints_at (getD_at (by omega))))) (ea_cons (ev_op (rowE P15.is rfl rfl) ev_c (rv_ixLn (j := 0) (sq_of hb2) (ints_at (getD_at (by omega))))) ea_nil)) (by show 2 ≤ 100000; decide)) (fun H16 e16 => rowE (e16 o _ P15.is) rfl rfl) (fun H16 H17 e16 e17 => rowE (e17 o _ (by rw [upd_ne hbo]; exact e16 o _ P15.is)) rfl rfl) hb2 (by rw [List.length_map]; omega) fun H16 H17 e16 e17 => ?_
      have hm1 : ((P4.getD at_ []).map V.int).set 0 (.int ((P4.getD at_ []).getD 1 0)) = ((P4.getD at_ []).set 0 ((P4.getD at_ []).getD 1 0)).map V.int := (List.map_set ..).symm
      rw [hm1] at e17 ⊢
      rw [← List.map_set]
      have PA := ((P15.up e16).chg (r := (P4.getD at_ []).set 0 ((P4.getD at_ []).getD 1 0)) hb1).up e17
      have PB := PA.chg (r := ((P4.getD at_ []).set 0 ((P4.getD at_ []).getD 1 0)).set 1 ((P4.getD at_ []).getD 0 0)) hb1
      refine kk _ _ ⟨_, _, rfl, PB, fun p hp => ?_, by rw [List.length_set, List.length_set]; omega, fun _ => by rw [List.length_set, List.length_set]; exact hlen⟩
      rw [List.set_set] at hp
      rcases List.mem_or_eq_of_mem_set hp with h | h
      · exact hp4 p h
      · rw [h]; exact swap_perm01 hpm (by omega)
    rintro _ H15 ⟨bs5, P5, rfl, P15, hp5, hl5, hn5⟩
    refine q_whenJ (fun σ' H' => ∃ (bs : List Addr) (P : List (List Int)), σ' = [some (.ref sa), some (.ref nu), some v1, some (.ref ra), some (.int (n : Int)), some (.ref o), some (.ref fa), some (.ref p1), some (.int ch), some (.int (at_ : Int)), none, none, none, none, none, none, none, none] ∧ PL H9 H' o bs P ∧ (∀ p ∈ P, p.Perm (iota n)) ∧ P.length ≤ n + 1) ?_ (et_test (ev_op (ev_var rfl) ev_c (rv_eq rfl))) (fun kk hb H16 e16 => ?_) (fun hb H16 e16 => ⟨bs5, P5, rfl, P15.up e16, hp5, by omega⟩)
    rotate_left
    · have P16 := P15.up e16
      have hlen : P5.length = n := hn5 (by rw [chE hb]; decide)
      obtain ⟨b, hb1, hb2⟩ := P16.at_ (i := at_) (by omega)
      refine s_appNew (fun H17 e17 => el_listOf (ev_op (ev_var rfl) (ev_var rfl) (rv_ixLn (sq_of (e17 o _ P16.is)) (by rw [List.getElem?_map, hb1]; rfl))) (.inl (sq_of (e17 b _ hb2)))) (ev_var rfl) P16.is (by rw [List.length_map, P16.ln]; omega) fun np H17 hnp e17 hnl => ?_
      obtain ⟨f1, f2, f3⟩ := P16.fresh hnp
      refine kk _ _ ⟨_, _, rfl, (P16.up e17).app f1 f2 f3 hnl, fun p hp => ?_, by rw [List.length_append, List.length_singleton]; omega⟩
      rcases List.mem_append.mp hp with h | h
      · exact hp5 p h
      · rw [List.mem_singleton.mp h]; exact perm_at hp5 (by omega)
    rintro _ H16 ⟨bs6, P6, rfl, P16, hp6, hl6⟩
    have hsh : ∀ p ∈ P6, p.length < 64 := fun p hp => by
      have := (hp6 p hp).length_eq
      rw [iota_len] at this; omega
    have hd16 := dp_mono (e29.trans P16.ex) _ _ hd1
    have hT16 : H16 tp = some (tabO tp) := (e02.trans (e29.trans P16.ex)) tp _ hT
    refine q_asg ev_c fun H17 e17 => ?_
    have P17 := P16.up e17
    have hd17 := dp_mono e17 _ _ hd16
    obtain ⟨b0, hb0⟩ : ∃ b0 : Bool, b0 = true ↔ partsOk n A P6 := by
      by_cases h : partsOk n A P6
      · exact ⟨true, fun _ => h, fun _ => rfl⟩
      · exact ⟨false, (fun z => nomatch z), fun z => absurd z h⟩
    refine q_whenJ (fun σ' H' => ∃ (dv : V) (d : PyData) (y11 y12 : Option V), σ' = [some (.ref sa), some (.ref nu), some v1, some (.ref ra), some (.int (n : Int)), some (.ref o), some (.ref fa), some (.ref p1), some (.int ch), some (.int (at_ : Int)), some dv, y11, y12, none, none, none, none, none] ∧ Ex H17 H' ∧ Dp K H' dv d ∧ plD d = true ∧ d.depth ≤ 64 ∧ (partsOk n A P6 → d = sqrD true true (numR n (toN P6))) ∧ (¬partsOk n A P6 → d = .str "refused")) ?_
      (et_truB (ev_call (vs := [v1, .ref o]) (z := .bl b0) (ea_cons (ev_var rfl) (ea_cons (ev_var rfl) ea_nil)) fun Hx ex Q q E => ⟨v1, .ref o, n, A, P6, rfl, dp_mono ex _ _ hd17, LA, by omega, by omega, (P17.up ex).dp, hp6, by omega, fun b hb => by
        have h5 : b = b0 := Bool.eq_iff_iff.mpr (hb.trans hb0.symm)
        rw [h5]; exact q⟩)) (fun kk hb H18 e18 => ?_) (fun hb H18 e18 => ⟨.str "refused", .str "refused", none, none, rfl, e18, .str _, by decide +kernel, by show 0 ≤ 64; decide, fun z => (by rw [hb0.mpr z] at hb; cases hb), fun _ => rfl⟩)
    rotate_left
    · have hok := hb0.mp hb
      have P18 := P17.up e18
      refine q_asgL (xs := []) (el_lst ea_nil (by show 0 ≤ 100000; decide)) fun ro H19 nro e19 hro => ?_
      refine q_forW (gets_r1 (n := (n : Int)) (ev_var rfl) (by omega)) walk_range (fun i σ' H' => ∃ (ts : List Addr) (y12 : Option V), σ' = [some (.ref sa), some (.ref nu), some v1, some (.ref ra), some (.int (n : Int)), some (.ref o), some (.ref fa), some (.ref p1), some (.int ch), some (.int (at_ : Int)), some (.str "refused"), some (.ref ro), y12, none, none, none, none, none] ∧ Ex H18 H' ∧ H' ro = some (.lst (ts.map V.ref)) ∧ ts.length = i ∧ ∀ (j : Nat) (t : Addr), ts[j]? = some t → H' t = some (.tup ((dueRow n P6 j).map V.int))) ?_ ?_ ?_ ?_
      · intro H20 e20; exact ⟨[], _, rfl, e19.trans e20, e20 _ _ hro, rfl, fun j t h => by simp at h⟩
      · intros; trivial
      · rintro r x σ' H' H20 hr1 ⟨ts, y12, rfl, ex, hrs, htl, htt⟩ ⟨rfl, rfl⟩
        have hr : r < n := hr1
        show gName 12 (.int (0 + (r : Int))) _ _ _
        rw [Int.zero_add]
        unfold gName; dsimp only [List.set]
        have hcp := colAt_perm hok hr
        refine s_appU (ys := (dueRow n P6 r).map V.int) hrs (ev_var rfl) (eu_tupleN (el_is (el_lcG (n := ((n : Int)).toNat) (fun c => V.int (((colAt P6 r).idxOf (c : Int) : Nat) : Int)) (fun H1 e => gets_r1 (n := (n : Int)) (ev_var rfl) (by omega)) walk_range (fun H' e => trivial) (by omega) (fun i H1 x H2 y => y.1) (fun _ => rfl) (fun c x Hx hc1 ex2 hy => ?_)) (by unfold dueRow; rw [List.map_map]; rfl))) (by rw [List.length_map]; omega) fun p H21 np e21 hp => ?_
        · obtain ⟨_, rfl⟩ := hy
          have hc : c < n := hc1
          show Ev _ [some (.ref sa), some (.ref nu), some v1, some (.ref ra), some (.int (n : Int)), some (.ref o), some (.ref fa), some (.ref p1), some (.int ch), some (.int (at_ : Int)), some (.str "refused"), some (.ref ro), some (.int (r : Int)), none, none, none, none, some (.int (0 + (c : Int)))] _ _
          rw [Int.zero_add]
          have hm : (c : Int) ∈ colAt P6 r := hcp.mem_iff.mpr (iota_mem.mpr (by omega))
          obtain ⟨g1, g2⟩ := idx_spec _ _ hm
          have PX := P18.up (ex.trans ex2)
          refine ev_idxNew (xs := (colAt P6 r).map V.int) (z := .int (c : Int)) (el_is (el_lcG (n := (bs6.map V.ref).length) (fun k => V.int ((P6.getD k []).getD r 0)) (fun H1 e => gets_list (ev_var rfl) (sq_of (e _ _ PX.is))) (walk_list (xs := bs6.map V.ref)) (fun H' e => sq_of (e _ _ PX.is)) (by rw [List.length_map, PX.ln]; omega) (fun i H1 x H2 y => y.1) (fun _ => rfl) (fun k x Hy hk ey y => ?_)) (col_list (by rw [List.length_map, PX.ln]) r)) (fun _ _ => ev_var rfl) rfl (by rw [List.all_eq_true]; intro y hy; obtain ⟨z, _, rfl⟩ := List.mem_map.mp hy; rfl) (by rw [List.getElem?_map, g1]; rfl) (beq_iff_eq.mpr rfl) fun m z' hm2 hz => ?_
          · obtain ⟨_, hx⟩ := y
            have hkb : k < bs6.length := by rwa [List.length_map] at hk
            rw [List.getElem?_map, List.getElem?_eq_getElem hkb] at hx
            cases hx
            have hrow := ey _ _ (PX.row k _ (List.getElem?_eq_getElem hkb))
            have hkP : k < P6.length := by rw [← PX.ln]; exact hkb
            have hpl := (perm_at (k := k) hp6 hkP).length_eq.trans (iota_len n)
            exact ev_op (ev_var rfl) (ev_var rfl) (rv_ixLn (sq_of hrow) (ints_at (getD_at (by omega))))
          · rw [List.getElem?_map] at hz
            cases hg : (colAt P6 r)[m]? with
            | none => rw [hg] at hz; cases hz
            | some y =>
              rw [hg] at hz
              cases hz
              exact beq_eq_false_iff_ne.mpr (g2 m y hm2 hg)
        · have hpr : p ≠ ro := fun z => by rw [z, hrs] at np; cases np
          refine ⟨ts ++ [p], _, rfl, ex_updN (ex.trans e21) (fresh_back (Ex.refl _) nro), by rw [upd_same, List.map_append]; rfl, by rw [List.length_append, htl]; rfl, fun j t hj => ?_⟩
          by_cases h : j < ts.length
          · rw [List.getElem?_append_left h] at hj
            have h5 := e21 _ _ (htt j t hj)
            rw [upd_ne (fun z => by rw [z, e21 _ _ hrs] at h5; cases h5)]
            exact h5
          · rw [List.getElem?_append_right (by omega)] at hj
            have h2 : j - ts.length = 0 := by
              have := (List.getElem?_eq_some_iff.mp hj).1
              simp at this; omega
            rw [h2] at hj
            cases hj
            have h3 : j = r := by omega
            rw [upd_ne hpr, h3]
            exact hp
      · rintro σ' H20 ⟨ts, y12, rfl, ex, hrs, htl, htt⟩
        have htl2 : ts.length = n := htl
        refine s_asgU2 (eu_tuple (ev_var rfl) (sq_of hrs)) fun p H21 np e21 hp => ?_
        refine kk _ _ ⟨.ref p, sqrD true true (numR n (toN P6)), _, _, rfl, e18.trans (ex.trans e21), ?_, plSq _ _ _, dpSq _ _ _, fun _ => rfl, fun z => absurd hok z⟩
        rw [num_due hok]
        refine .tup (st_of hp) (dpAll_tups ts _ (by rw [List.length_map, List.length_range, htl2]) fun j t hj => ?_)
        have hjn : j < n := by have := (List.getElem?_eq_some_iff.mp hj).1; omega
        rw [getD_map_range n _ j [] hjn]
        exact e21 _ _ (htt j t hj)
    rintro _ H18 ⟨dv, d, y11, y12, rfl, e18, hdv, pd, nd, hdy, hdn⟩
    have P18 := P17.up e18
    have hd18 := dp_mono e18 _ _ hd17
    have hPd := P18.dp (K := K)
    refine s_ret (v := .bl true) (ev_eqQ (K := K) (b := true) (d := d) (e := d) (evq_callP (ds := [sqrD true true A, sqrD false true P6]) (evda_cons (evd_of (ev_var rfl) hd18) (evda_cons ?_ evda_nil)) fun vs H19 e19 hvs Q q => ?_) (fun H19 e19 => evd_of (ev_var rfl) (dp_mono e19 _ _ hdv)) pd pd nd nd ⟨fun _ => rfl, fun _ => rfl⟩) fun H19 e19 => ?_
    · have h := evd_lcL (K := K) (H := H18) (ds := P6.map (rowD false)) (a := o) (tl := tVar 5) (j := 16) (vs := [16]) (ta := tTupO K (tVar 16)) (σ := [some (.ref sa), some (.ref nu), some v1, some (.ref ra), some (.int (n : Int)), some (.ref o), some (.ref fa), some (.ref p1), some (.int ch), some (.int (at_ : Int)), some dv, y11, y12, none, none, none, none, none]) (fun r => rowD true (P6.getD r [])) (ev_var rfl) hPd (by rw [List.length_map]; omega) (fun _ => rfl) (fun r x dx hdx hx => ?_)
      · rw [List.length_map] at h
        have he : (List.range P6.length).map (fun r => rowD true (P6.getD r [])) = P6.map (rowD true) := by
          apply List.ext_getElem?
          intro r
          rw [List.getElem?_map, List.getElem?_map]
          by_cases hr : r < P6.length
          · rw [List.getElem?_range hr, List.getElem?_eq_getElem hr]
            show some (rowD true (P6.getD r [])) = _
            rw [getD_nil (List.getElem?_eq_getElem hr)]; rfl
          · rw [List.getElem?_eq_none (by rw [List.length_range]; omega), List.getElem?_eq_none (by omega)]; rfl
        rw [he] at h
        exact h
      · have hr : r < P6.length := by have := (List.getElem?_eq_some_iff.mp hdx).1; rwa [List.length_map] at this
        rw [rows_get hr] at hdx
        cases hdx
        exact evd_rowT (evd_of (ev_var rfl) hx)
    · cases hvs with
      | cons a b =>
        cases b with
        | cons b c =>
          cases c
          exact ⟨_, n, A, true, true, _, P6, rfl, a, LA, by omega, by omega, (e17.trans (e18.trans e19)) tp _ hT16, b, hsh, by omega, fun z => by rw [← hdy z]; exact q, fun z H20 e20 => q (.str "refused") H20 e20 (by rw [hdn z]; exact .str _)⟩
    · exact q H19 (e02.trans (e29.trans (P18.ex.trans e19)))

end
end My
namespace My
open PySem PySem.W PySem.Spec PyProof.Rows L2 Evl Mi
/-! ### what the top has written -/
set_option maxHeartbeats 8000000 in
theorem all_mk {l : PySem.W.OpenLaw} {w : World} {K : PySem.W.Frag} {h : Heap} {mg : Str → Option Value} {fa f1 f2 f3 f4 q4 T4 f5 f6 f7 f8 f9 f10 f11 f12 f13 f14 f15 f16 f17 f18 f19 f20 f21 Q1 Q2 M0 : Addr} (X : K.In h) (G : h.Ns mainGlobals mg) (hfa : mg "law" = some (.ref fa)) (TFK : ∀ x ∈ (["is_arrangement"] : List Str), TabFact K mg h x)
    {od1 an1 od2 an2 od3 an3 od4 an4 ed4 od5 an5 od6 an6 od7 an7 od8 an8 od9 an9 od10 an10 od11 an11 od12 an12 od13 an13 od14 an14 od15 an15 od16 an16 od17 an17 od18 an18 od19 an19 od20 an20 od21 an21 : Option Addr} {sl1 sl2 sl3 sl4 es4 sl5 sl6 sl7 sl8 sl9 sl10 sl11 sl12 sl13 sl14 sl15 sl16 sl17 sl18 sl19 sl20 sl21 : Array (Option Value)} {vs4 : Array Value} {oc1 kV1 dc1 pm1 ct1 cd1 oc2 kV2 dc2 pm2 ct2 cd2 oc3 kV3 dc3 pm3 ct3 cd3 oc4 kV4 dc4 pm4 ct4 ec4 oc5 kV5 dc5 pm5 ct5 cd5 oc6 kV6 dc6 pm6 ct6 cd6 oc7 kV7 dc7 pm7 ct7 cd7 oc8 kV8 dc8 pm8 ct8 cd8 oc9 kV9 dc9 pm9 ct9 cd9 oc10 kV10 dc10 pm10 ct10 cd10 oc11 kV11 dc11 pm11 ct11 cd11 oc12 kV12 dc12 pm12 ct12 cd12 oc13 kV13 dc13 pm13 ct13 cd13 oc14 kV14 dc14 pm14 ct14 cd14 oc15 kV15 dc15 pm15 ct15 cd15 oc16 kV16 dc16 pm16 ct16 cd16 oc17 kV17 dc17 pm17 ct17 cd17 oc18 kV18 dc18 pm18 ct18 cd18 oc19 kV19 dc19 pm19 ct19 cd19 oc20 kV20 dc20 pm20 ct20 cd20 oc21 kV21 dc21 pm21 ct21 cd21 : Value} {t_GREATEST_LISTED : Tok}
    (a1 : PySem.W.nsIn K mainGlobals "is_integer" = some (some (.ref f1)))
    (l1 : K.lookup f1 = some ⟨oc1, od1, .func (PySem.W.fnOf "is_integer" "is_integer" (defArgs s_is_integer) (defBody s_is_integer) (defScope s_is_integer) .none kV1 dc1 pm1 an1 cd1 ct1), sl1⟩)
    (c1 : PySem.W.codeIn K cd1 "is_integer" = true)
    (k1 : PySem.W.keepIn K (.ref f1) = true)
    (a2 : PySem.W.nsIn K mainGlobals "_law_row" = some (some (.ref f2)))
    (l2 : K.lookup f2 = some ⟨oc2, od2, .func (PySem.W.fnOf "_law_row" "_law_row" (defArgs s__law_row) (defBody s__law_row) (defScope s__law_row) .none kV2 dc2 pm2 an2 cd2 ct2), sl2⟩)
    (c2 : PySem.W.codeIn K cd2 "_law_row" = true)
    (k2 : PySem.W.keepIn K (.ref f2) = true)
    (a3 : PySem.W.nsIn K mainGlobals "_law_numbers" = some (some (.ref f3)))
    (l3 : K.lookup f3 = some ⟨oc3, od3, .func (PySem.W.fnOf "_law_numbers" "_law_numbers" (defArgs s__law_numbers) (defBody s__law_numbers) (defScope s__law_numbers) .none kV3 dc3 pm3 an3 cd3 ct3), sl3⟩)
    (c3 : PySem.W.codeIn K cd3 "_law_numbers" = true)
    (k3 : PySem.W.keepIn K (.ref f3) = true)
    (a4 : PySem.W.nsIn K mainGlobals "is_arrangement" = some (some (.ref f4)))
    (l4 : K.lookup f4 = some ⟨oc4, od4, .func (PySem.W.fnOf "is_arrangement" "is_arrangement" (defArgs s_is_arrangement) (defBody s_is_arrangement) (defScope s_is_arrangement) .none kV4 dc4 pm4 an4 (.ref q4) ct4), sl4⟩)
    (c4 : PySem.W.codeIn K (.ref q4) "is_arrangement" = true)
    (k4 : PySem.W.keepIn K (.ref f4) = true)
    (t4 : K.lookup q4 = some ⟨ec4, ed4, .fields vs4, es4⟩)
    (u4 : vs4[11]? = some (.ref T4))
    (v4 : K.lookup T4 = none)
    (a5 : PySem.W.nsIn K mainGlobals "square_rows" = some (some (.ref f5)))
    (l5 : K.lookup f5 = some ⟨oc5, od5, .func (PySem.W.fnOf "square_rows" "square_rows" (defArgs s_square_rows) (defBody s_square_rows) (defScope s_square_rows) .none kV5 dc5 pm5 an5 cd5 ct5), sl5⟩)
    (c5 : PySem.W.codeIn K cd5 "square_rows" = true)
    (k5 : PySem.W.keepIn K (.ref f5) = true)
    (a6 : PySem.W.nsIn K mainGlobals "kept_rows" = some (some (.ref f6)))
    (l6 : K.lookup f6 = some ⟨oc6, od6, .func (PySem.W.fnOf "kept_rows" "kept_rows" (defArgs s_kept_rows) (defBody s_kept_rows) (defScope s_kept_rows) .none kV6 dc6 pm6 an6 cd6 ct6), sl6⟩)
    (c6 : PySem.W.codeIn K cd6 "kept_rows" = true)
    (k6 : PySem.W.keepIn K (.ref f6) = true)
    (a7 : PySem.W.nsIn K mainGlobals "first_repeat" = some (some (.ref f7)))
    (l7 : K.lookup f7 = some ⟨oc7, od7, .func (PySem.W.fnOf "first_repeat" "first_repeat" (defArgs s_first_repeat) (defBody s_first_repeat) (defScope s_first_repeat) .none kV7 dc7 pm7 an7 cd7 ct7), sl7⟩)
    (c7 : PySem.W.codeIn K cd7 "first_repeat" = true)
    (k7 : PySem.W.keepIn K (.ref f7) = true)
    (a8 : PySem.W.nsIn K mainGlobals "are_mates" = some (some (.ref f8)))
    (l8 : K.lookup f8 = some ⟨oc8, od8, .func (PySem.W.fnOf "are_mates" "are_mates" (defArgs s_are_mates) (defBody s_are_mates) (defScope s_are_mates) .none kV8 dc8 pm8 an8 cd8 ct8), sl8⟩)
    (c8 : PySem.W.codeIn K cd8 "are_mates" = true)
    (k8 : PySem.W.keepIn K (.ref f8) = true)
    (a9 : PySem.W.nsIn K mainGlobals "is_transversal_of" = some (some (.ref f9)))
    (l9 : K.lookup f9 = some ⟨oc9, od9, .func (PySem.W.fnOf "is_transversal_of" "is_transversal_of" (defArgs s_is_transversal_of) (defBody s_is_transversal_of) (defScope s_is_transversal_of) .none kV9 dc9 pm9 an9 cd9 ct9), sl9⟩)
    (c9 : PySem.W.codeIn K cd9 "is_transversal_of" = true)
    (k9 : PySem.W.keepIn K (.ref f9) = true)
    (a10 : PySem.W.nsIn K mainGlobals "numbered" = some (some (.ref f10)))
    (l10 : K.lookup f10 = some ⟨oc10, od10, .func (PySem.W.fnOf "numbered" "numbered" (defArgs s_numbered) (defBody s_numbered) (defScope s_numbered) .none kV10 dc10 pm10 an10 cd10 ct10), sl10⟩)
    (c10 : PySem.W.codeIn K cd10 "numbered" = true)
    (k10 : PySem.W.keepIn K (.ref f10) = true)
    (a11 : PySem.W.nsIn K mainGlobals "parts_of" = some (some (.ref f11)))
    (l11 : K.lookup f11 = some ⟨oc11, od11, .func (PySem.W.fnOf "parts_of" "parts_of" (defArgs s_parts_of) (defBody s_parts_of) (defScope s_parts_of) .none kV11 dc11 pm11 an11 cd11 ct11), sl11⟩)
    (c11 : PySem.W.codeIn K cd11 "parts_of" = true)
    (k11 : PySem.W.keepIn K (.ref f11) = true)
    (a12 : PySem.W.nsIn K mainGlobals "_law_pick" = some (some (.ref f12)))
    (l12 : K.lookup f12 = some ⟨oc12, od12, .func (PySem.W.fnOf "_law_pick" "_law_pick" (defArgs s__law_pick) (defBody s__law_pick) (defScope s__law_pick) .none kV12 dc12 pm12 an12 cd12 ct12), sl12⟩)
    (c12 : PySem.W.codeIn K cd12 "_law_pick" = true)
    (k12 : PySem.W.keepIn K (.ref f12) = true)
    (a13 : PySem.W.nsIn K mainGlobals "_law_field_sum" = some (some (.ref f13)))
    (l13 : K.lookup f13 = some ⟨oc13, od13, .func (PySem.W.fnOf "_law_field_sum" "_law_field_sum" (defArgs s__law_field_sum) (defBody s__law_field_sum) (defScope s__law_field_sum) .none kV13 dc13 pm13 an13 cd13 ct13), sl13⟩)
    (c13 : PySem.W.codeIn K cd13 "_law_field_sum" = true)
    (k13 : PySem.W.keepIn K (.ref f13) = true)
    (a14 : PySem.W.nsIn K mainGlobals "_law_powers" = some (some (.ref f14)))
    (l14 : K.lookup f14 = some ⟨oc14, od14, .func (PySem.W.fnOf "_law_powers" "_law_powers" (defArgs s__law_powers) (defBody s__law_powers) (defScope s__law_powers) .none kV14 dc14 pm14 an14 cd14 ct14), sl14⟩)
    (c14 : PySem.W.codeIn K cd14 "_law_powers" = true)
    (k14 : PySem.W.keepIn K (.ref f14) = true)
    (a15 : PySem.W.nsIn K mainGlobals "_law_field_product" = some (some (.ref f15)))
    (l15 : K.lookup f15 = some ⟨oc15, od15, .func (PySem.W.fnOf "_law_field_product" "_law_field_product" (defArgs s__law_field_product) (defBody s__law_field_product) (defScope s__law_field_product) .none kV15 dc15 pm15 an15 cd15 ct15), sl15⟩)
    (c15 : PySem.W.codeIn K cd15 "_law_field_product" = true)
    (k15 : PySem.W.keepIn K (.ref f15) = true)
    (a16 : PySem.W.nsIn K mainGlobals "_law_shuffled" = some (some (.ref f16)))
    (l16 : K.lookup f16 = some ⟨oc16, od16, .func (PySem.W.fnOf "_law_shuffled" "_law_shuffled" (defArgs s__law_shuffled) (defBody s__law_shuffled) (defScope s__law_shuffled) .none kV16 dc16 pm16 an16 cd16 ct16), sl16⟩)
    (c16 : PySem.W.codeIn K cd16 "_law_shuffled" = true)
    (k16 : PySem.W.keepIn K (.ref f16) = true)
    (a17 : PySem.W.nsIn K mainGlobals "_law_two" = some (some (.ref f17)))
    (l17 : K.lookup f17 = some ⟨oc17, od17, .func (PySem.W.fnOf "_law_two" "_law_two" (defArgs s__law_two) (defBody s__law_two) (defScope s__law_two) .none kV17 dc17 pm17 an17 cd17 ct17), sl17⟩)
    (c17 : PySem.W.codeIn K cd17 "_law_two" = true)
    (k17 : PySem.W.keepIn K (.ref f17) = true)
    (a18 : PySem.W.nsIn K mainGlobals "mate_by" = some (some (.ref f18)))
    (l18 : K.lookup f18 = some ⟨oc18, od18, .func (PySem.W.fnOf "mate_by" "mate_by" (defArgs s_mate_by) (defBody s_mate_by) (defScope s_mate_by) .none kV18 dc18 pm18 an18 cd18 ct18), sl18⟩)
    (c18 : PySem.W.codeIn K cd18 "mate_by" = true)
    (k18 : PySem.W.keepIn K (.ref f18) = true)
    (a19 : PySem.W.nsIn K mainGlobals "_law_is_parting" = some (some (.ref f19)))
    (l19 : K.lookup f19 = some ⟨oc19, od19, .func (PySem.W.fnOf "_law_is_parting" "_law_is_parting" (defArgs s__law_is_parting) (defBody s__law_is_parting) (defScope s__law_is_parting) .none kV19 dc19 pm19 an19 cd19 ct19), sl19⟩)
    (c19 : PySem.W.codeIn K cd19 "_law_is_parting" = true)
    (k19 : PySem.W.keepIn K (.ref f19) = true)
    (a20 : PySem.W.nsIn K mainGlobals "_law_told" = some (some (.ref f20)))
    (l20 : K.lookup f20 = some ⟨oc20, od20, .func (PySem.W.fnOf "_law_told" "_law_told" (defArgs s__law_told) (defBody s__law_told) (defScope s__law_told) .none kV20 dc20 pm20 an20 cd20 ct20), sl20⟩)
    (c20 : PySem.W.codeIn K cd20 "_law_told" = true)
    (k20 : PySem.W.keepIn K (.ref f20) = true)
    (a21 : PySem.W.nsIn K mainGlobals "law" = some (some (.ref f21)))
    (l21 : K.lookup f21 = some ⟨oc21, od21, .func (PySem.W.fnOf "law" "law" (defArgs s_law) (defBody s_law) (defScope s_law) .none kV21 dc21 pm21 an21 cd21 ct21), sl21⟩)
    (c21 : PySem.W.codeIn K cd21 "law" = true)
    (k21 : PySem.W.keepIn K (.ref f21) = true)
    (aQ1 : PySem.W.nsIn K mainGlobals "InvalidQuestion" = some (some (.ref Q1)))
    (xQ1 : PySem.W.excIn K Q1 [.type "ValueError", .type "Exception", .type "BaseException", .type "object"] "ValueError.__new__" = true)
    (kQ1 : PySem.W.keepIn K (.ref Q1) = true)
    (bQ1 : PySem.W.subIn K (.ref Q1) (.type "BaseException") = some true)
    (tQ1 : PySem.W.typeIn K (.ref Q1) = some (.type "type"))
    (iQ1 : PySem.W.isClsIn K Q1 = true)
    (sQ1 : PySem.W.subIn K (.ref Q1) (.ref Q1) = some true)
    (aQ2 : PySem.W.nsIn K mainGlobals "InvalidSquare" = some (some (.ref Q2)))
    (xQ2 : PySem.W.excIn K Q2 [.type "ValueError", .type "Exception", .type "BaseException", .type "object"] "ValueError.__new__" = true)
    (kQ2 : PySem.W.keepIn K (.ref Q2) = true)
    (bQ2 : PySem.W.subIn K (.ref Q2) (.type "BaseException") = some true)
    (tQ2 : PySem.W.typeIn K (.ref Q2) = some (.type "type"))
    (iQ2 : PySem.W.isClsIn K Q2 = true)
    (sQ2 : PySem.W.subIn K (.ref Q2) (.ref Q2) = some true)
    (gM0 : PySem.W.nsIn K mainGlobals "MatedsquaresError" = some (some (.ref M0)))
    (nV0 : PySem.W.nsIn K mainGlobals "ValueError" = some none)
    (hn0 : PySem.W.specialIn K (.builtin "object.__class__") "__get__" = some (some (.builtin "getset_descriptor.__get__")))
    (ht0 : PySem.W.takesIn K (.builtin "object.__class__") = some true)
    (hgQ1 : PySem.W.findIn K (.ref Q1) "__getattribute__" = some (some (.builtin "BaseException.__getattribute__")))
    (hkQ1 : PySem.W.findIn K (.ref Q1) "__getattr__" = some none)
    (hdQ1 : PySem.W.hasDictIn K Q1 = true)
    (haQ1 : PySem.W.findIn K (.ref Q1) "__class__" = some (some (.builtin "object.__class__")))
    (hmQ1 : PySem.W.mroIn K Q1 (.type "object") = some true)
    (kMQ1 : PySem.W.kitOne K (.ref Q1) (.ref M0) = some true)
    (kVQ1 : PySem.W.kitOne K (.ref Q1) (.type "ValueError") = some true)
    (z_range : PySem.W.nsIn K mainGlobals "range" = some none)
    (z_len : PySem.W.nsIn K mainGlobals "len" = some none)
    (z_int : PySem.W.nsIn K mainGlobals "int" = some none)
    (z_abs : PySem.W.nsIn K mainGlobals "abs" = some none)
    (z_max : PySem.W.nsIn K mainGlobals "max" = some none)
    (z_min : PySem.W.nsIn K mainGlobals "min" = some none)
    (z_list : PySem.W.nsIn K mainGlobals "list" = some none)
    (z_tuple : PySem.W.nsIn K mainGlobals "tuple" = some none)
    (z_reversed : PySem.W.nsIn K mainGlobals "reversed" = some none)
    (z_enumerate : PySem.W.nsIn K mainGlobals "enumerate" = some none)
    (z_zip : PySem.W.nsIn K mainGlobals "zip" = some none)
    (z_isinstance : PySem.W.nsIn K mainGlobals "isinstance" = some none)
    (z_bool : PySem.W.nsIn K mainGlobals "bool" = some none)
    (z_repr : PySem.W.nsIn K mainGlobals "repr" = some none)
    (z_all : PySem.W.nsIn K mainGlobals "all" = some none)
    (z_sorted : PySem.W.nsIn K mainGlobals "sorted" = some none)
    (z_any : PySem.W.nsIn K mainGlobals "any" = some none)
    (z_divmod : PySem.W.nsIn K mainGlobals "divmod" = some none)
    (z_set : PySem.W.nsIn K mainGlobals "set" = some none)
    (g_GREATEST_LISTED : PySem.W.nsIn K mainGlobals "GREATEST_LISTED" = some (some (.int 12 t_GREATEST_LISTED)))
    : LawQ l w K 7 63 "script" mg fa h := by
  have e := hfa.symm.trans (PySem.W.mg_of X G a21)
  cases e
  have E_InvalidSquare : ErrC K mg "InvalidSquare" Q2 := ⟨PySem.W.mg_of X G aQ2, xQ2, kQ2, bQ2, tQ2, exm_self bQ2 iQ2 tQ2 sQ2⟩
  have E_InvalidQuestion : ErrC K mg "InvalidQuestion" Q1 := ⟨PySem.W.mg_of X G aQ1, xQ1, kQ1, bQ1, tQ1, exm_self bQ1 iQ1 tQ1 sQ1⟩
  have F1 := fun_mk (st := s_is_integer) l1 c1 k1
  have b1 := F1.binds (ps := ["value"]) fun _ _ _ _ _ _ us hl => match us, hl with | [_], _ => rfl
  have D_is_integer : Df K mg "is_integer" s_is_integer ["value"] := ⟨_, _, F1, PySem.W.mg_of X G a1, b1⟩
  have F2 := fun_mk (st := s__law_row) l2 c2 k2
  have b2 := F2.binds (ps := ["cell", "many"]) fun _ _ _ _ _ _ us hl => match us, hl with | [_, _], _ => rfl
  have D__law_row : Df K mg "_law_row" s__law_row ["cell", "many"] := ⟨_, _, F2, PySem.W.mg_of X G a2, b2⟩
  have F3 := fun_mk (st := s__law_numbers) l3 c3 k3
  have b3 := F3.binds (ps := ["script", "many"]) fun _ _ _ _ _ _ us hl => match us, hl with | [_, _], _ => rfl
  have D__law_numbers : Df K mg "_law_numbers" s__law_numbers ["script", "many"] := ⟨_, _, F3, PySem.W.mg_of X G a3, b3⟩
  have F4 := fun_mk (st := s_is_arrangement) l4 c4 k4
  have b4 := F4.binds (ps := ["values", "size"]) fun _ _ _ _ _ _ us hl => match us, hl with | [_, _], _ => rfl
  have D_is_arrangement : Dfc K mg "is_arrangement" s_is_arrangement ["values", "size"] q4 := ⟨_, _, _, _, _, _, _, _, _, _, rfl, l4, c4, k4, PySem.W.mg_of X G a4, b4⟩
  have F5 := fun_mk (st := s_square_rows) l5 c5 k5
  have b5 := F5.binds (ps := ["rows"]) fun _ _ _ _ _ _ us hl => match us, hl with | [_], _ => rfl
  have D_square_rows : Df K mg "square_rows" s_square_rows ["rows"] := ⟨_, _, F5, PySem.W.mg_of X G a5, b5⟩
  have F6 := fun_mk (st := s_kept_rows) l6 c6 k6
  have b6 := F6.binds (ps := ["rows"]) fun _ _ _ _ _ _ us hl => match us, hl with | [_], _ => rfl
  have D_kept_rows : Df K mg "kept_rows" s_kept_rows ["rows"] := ⟨_, _, F6, PySem.W.mg_of X G a6, b6⟩
  have F7 := fun_mk (st := s_first_repeat) l7 c7 k7
  have b7 := F7.binds (ps := ["one", "other"]) fun _ _ _ _ _ _ us hl => match us, hl with | [_, _], _ => rfl
  have D_first_repeat : Df K mg "first_repeat" s_first_repeat ["one", "other"] := ⟨_, _, F7, PySem.W.mg_of X G a7, b7⟩
  have F8 := fun_mk (st := s_are_mates) l8 c8 k8
  have b8 := F8.binds (ps := ["one", "other"]) fun _ _ _ _ _ _ us hl => match us, hl with | [_, _], _ => rfl
  have D_are_mates : Df K mg "are_mates" s_are_mates ["one", "other"] := ⟨_, _, F8, PySem.W.mg_of X G a8, b8⟩
  have F9 := fun_mk (st := s_is_transversal_of) l9 c9 k9
  have b9 := F9.binds (ps := ["kept", "columns"]) fun _ _ _ _ _ _ us hl => match us, hl with | [_, _], _ => rfl
  have D_is_transversal_of : Df K mg "is_transversal_of" s_is_transversal_of ["kept", "columns"] := ⟨_, _, F9, PySem.W.mg_of X G a9, b9⟩
  have F10 := fun_mk (st := s_numbered) l10 c10 k10
  have b10 := F10.binds (ps := ["parts"]) fun _ _ _ _ _ _ us hl => match us, hl with | [_], _ => rfl
  have D_numbered : Df K mg "numbered" s_numbered ["parts"] := ⟨_, _, F10, PySem.W.mg_of X G a10, b10⟩
  have F11 := fun_mk (st := s_parts_of) l11 c11 k11
  have b11 := F11.binds (ps := ["rows", "other"]) fun _ _ _ _ _ _ us hl => match us, hl with | [_, _], _ => rfl
  have D_parts_of : Df K mg "parts_of" s_parts_of ["rows", "other"] := ⟨_, _, F11, PySem.W.mg_of X G a11, b11⟩
  have F12 := fun_mk (st := s__law_pick) l12 c12 k12
  have b12 := F12.binds (ps := ["numbers", "at", "most"]) fun _ _ _ _ _ _ us hl => match us, hl with | [_, _, _], _ => rfl
  have D__law_pick : Df K mg "_law_pick" s__law_pick ["numbers", "at", "most"] := ⟨_, _, F12, PySem.W.mg_of X G a12, b12⟩
  have F13 := fun_mk (st := s__law_field_sum) l13 c13 k13
  have b13 := F13.binds (ps := ["p", "a", "b"]) fun _ _ _ _ _ _ us hl => match us, hl with | [_, _, _], _ => rfl
  have D__law_field_sum : Df K mg "_law_field_sum" s__law_field_sum ["p", "a", "b"] := ⟨_, _, F13, PySem.W.mg_of X G a13, b13⟩
  have F14 := fun_mk (st := s__law_powers) l14 c14 k14
  have b14 := F14.binds (ps := ["q"]) fun _ _ _ _ _ _ us hl => match us, hl with | [_], _ => rfl
  have D__law_powers : Df K mg "_law_powers" s__law_powers ["q"] := ⟨_, _, F14, PySem.W.mg_of X G a14, b14⟩
  have F15 := fun_mk (st := s__law_field_product) l15 c15 k15
  have b15 := F15.binds (ps := ["q", "a", "b"]) fun _ _ _ _ _ _ us hl => match us, hl with | [_, _, _], _ => rfl
  have D__law_field_product : Df K mg "_law_field_product" s__law_field_product ["q", "a", "b"] := ⟨_, _, F15, PySem.W.mg_of X G a15, b15⟩
  have F16 := fun_mk (st := s__law_shuffled) l16 c16 k16
  have b16 := F16.binds (ps := ["numbers", "at", "count"]) fun _ _ _ _ _ _ us hl => match us, hl with | [_, _, _], _ => rfl
  have D__law_shuffled : Df K mg "_law_shuffled" s__law_shuffled ["numbers", "at", "count"] := ⟨_, _, F16, PySem.W.mg_of X G a16, b16⟩
  have F17 := fun_mk (st := s__law_two) l17 c17 k17
  have b17 := F17.binds (ps := ["numbers", "at"]) fun _ _ _ _ _ _ us hl => match us, hl with | [_, _], _ => rfl
  have D__law_two : Df K mg "_law_two" s__law_two ["numbers", "at"] := ⟨_, _, F17, PySem.W.mg_of X G a17, b17⟩
  have F18 := fun_mk (st := s_mate_by) l18 c18 k18
  have b18 := F18.binds (ps := ["rows", "parts"]) fun _ _ _ _ _ _ us hl => match us, hl with | [_, _], _ => rfl
  have D_mate_by : Df K mg "mate_by" s_mate_by ["rows", "parts"] := ⟨_, _, F18, PySem.W.mg_of X G a18, b18⟩
  have F19 := fun_mk (st := s__law_is_parting) l19 c19 k19
  have b19 := F19.binds (ps := ["square", "parts"]) fun _ _ _ _ _ _ us hl => match us, hl with | [_, _], _ => rfl
  have D__law_is_parting : Df K mg "_law_is_parting" s__law_is_parting ["square", "parts"] := ⟨_, _, F19, PySem.W.mg_of X G a19, b19⟩
  have F20 := fun_mk (st := s__law_told) l20 c20 k20
  have b20 := F20.binds (ps := ["square", "parts"]) fun _ _ _ _ _ _ us hl => match us, hl with | [_, _], _ => rfl
  have D__law_told : Df K mg "_law_told" s__law_told ["square", "parts"] := ⟨_, _, F20, PySem.W.mg_of X G a20, b20⟩
  have F21 := fun_mk (st := s_law) l21 c21 k21
  have b21 := F21.binds (ps := ["script"]) fun _ _ _ _ _ _ us hl => match us, hl with | [_], _ => rfl
  have D_law : Df K mg "law" s_law ["script"] := ⟨_, _, F21, PySem.W.mg_of X G a21, b21⟩
  have EM_InvalidQuestion : ErrM K mg Q1 M0 := ⟨⟨hgQ1, hkQ1, bQ1, hdQ1, haQ1, hn0, ht0, hmQ1⟩, PySem.W.mg_of X G gM0, kMQ1, kVQ1, PySem.W.mg_none_of X G nV0⟩
  have B : Bt mg := ⟨PySem.W.mg_none_of X G z_range, PySem.W.mg_none_of X G z_len, PySem.W.mg_none_of X G z_int, PySem.W.mg_none_of X G z_abs, PySem.W.mg_none_of X G z_max, PySem.W.mg_none_of X G z_min, PySem.W.mg_none_of X G z_list, PySem.W.mg_none_of X G z_tuple, PySem.W.mg_none_of X G z_reversed, PySem.W.mg_none_of X G z_enumerate, PySem.W.mg_none_of X G z_zip, PySem.W.mg_none_of X G z_isinstance, PySem.W.mg_none_of X G z_bool, PySem.W.mg_none_of X G z_repr, PySem.W.mg_none_of X G z_all, PySem.W.mg_none_of X G z_sorted, PySem.W.mg_none_of X G z_any, PySem.W.mg_none_of X G z_divmod, PySem.W.mg_none_of X G z_set⟩
  have CS : CtS mg := ⟨⟨_, PySem.W.mg_of X G g_GREATEST_LISTED⟩⟩
  have ID := id_is_integer D_is_integer B
  have hd4 := TFK "is_arrangement" (by simp) f4 _ _ q4 _ _ _ _ T4 (PySem.W.mg_of X G a4) l4 rfl rfl t4 u4
  have inc : ∀ {Z : Addr × Addr → Prop}, Z (q4, T4) ∧ True → ∀ p ∈ ([(q4, T4)] : List (Addr × Addr)), Z p := fun {Z} hz p hp => by
    simp only [List.mem_cons, List.not_mem_nil, or_false] at hp
    rcases hp with rfl
    · exact hz.1
  refine ⟨PySem.W.fnOf "law" "law" (defArgs s_law) (defBody s_law) (defScope s_law) .none kV21 dc21 pm21 an21 cd21 ct21, [(q4, T4)], spLaw K T4, inc ⟨hd4.2, trivial⟩, inc ⟨v4, trivial⟩, inc ⟨hd4.1, trivial⟩, fun s v => .of_eq rfl, ?_, ?_⟩
  · intro H a ns hl hTb hS; exact ⟨a, ns, rfl, hS, hl, hTb (q4, T4) (by simp), fun H' e => ⟨rfl, e⟩⟩
  · intro base _ _ hTB
    have TB := (hTB (q4, T4) (by simp)).1
    have hbP := (hTB (q4, T4) (by simp)).2
    have c__law_row := ok__law_row (P := l.prog) (w := w) (mg := mg) (base := base) D__law_row B
    have c__law_numbers := ok__law_numbers (P := l.prog) (w := w) (mg := mg) (base := base) D__law_numbers B c__law_row
    have c_is_arrangement := ok_is_arrangement (P := l.prog) (w := w) (mg := mg) (base := base) D_is_arrangement B TB hbP ID
    have c_square_rows := ok_square_rows (P := l.prog) (w := w) (mg := mg) (base := base) D_square_rows B CS E_InvalidSquare c_is_arrangement
    have c_kept_rows := ok_kept_rows (P := l.prog) (w := w) (mg := mg) (base := base) D_kept_rows c_square_rows
    have c_first_repeat := ok_first_repeat (P := l.prog) (w := w) (mg := mg) (base := base) D_first_repeat B c_kept_rows
    have c_are_mates := ok_are_mates (P := l.prog) (w := w) (mg := mg) (base := base) D_are_mates c_first_repeat
    have c_is_transversal_of := ok_is_transversal_of (P := l.prog) (w := w) (mg := mg) (base := base) D_is_transversal_of B c_is_arrangement
    have c_numbered := ok_numbered (P := l.prog) (w := w) (mg := mg) (base := base) D_numbered B
    have c_parts_of := ok_parts_of (P := l.prog) (w := w) (mg := mg) (base := base) D_parts_of B c_are_mates
    have c__law_pick := ok__law_pick (P := l.prog) (w := w) (mg := mg) (base := base) D__law_pick B
    have c__law_field_sum := ok__law_field_sum (P := l.prog) (w := w) (mg := mg) (base := base) D__law_field_sum B
    have c__law_powers := ok__law_powers (P := l.prog) (w := w) (mg := mg) (base := base) D__law_powers
    have c__law_field_product := ok__law_field_product (P := l.prog) (w := w) (mg := mg) (base := base) D__law_field_product c__law_powers
    have c__law_shuffled := ok__law_shuffled (P := l.prog) (w := w) (mg := mg) (base := base) D__law_shuffled B
    have c__law_two := ok__law_two (P := l.prog) (w := w) (mg := mg) (base := base) D__law_two B c__law_pick c__law_field_sum c__law_field_product c__law_shuffled
    have c_mate_by := ok_mate_by (P := l.prog) (w := w) (mg := mg) (base := base) D_mate_by B E_InvalidQuestion c_kept_rows c_is_transversal_of c_numbered
    have c__law_is_parting := ok__law_is_parting (P := l.prog) (w := w) (mg := mg) (base := base) D__law_is_parting B
    have c__law_told := ok__law_told (P := l.prog) (w := w) (mg := mg) (base := base) D__law_told B E_InvalidQuestion EM_InvalidQuestion c_mate_by
    exact ok_law (P := l.prog) (w := w) (mg := mg) (base := base) F21 B c__law_numbers c__law_two c_are_mates c_parts_of c_mate_by c__law_shuffled c__law_pick c__law_is_parting c__law_told
end My
open PySem PySem.W PyProof.Rows
set_option maxRecDepth 100000 in
set_option maxHeartbeats 0 in
theorem PySem.Challenge.cw_matedsquares_k27_parts_and_mates_holds : PySem.Challenge.rw_matedsquares_k27_parts_and_mates.Holds := by
  w_on; o_law; k_head; (case hw => w_witness2)
  k_fill
  refine My.walk_ofQ (l := PySem.Challenge.rw_matedsquares_k27_parts_and_mates) (n := 63) (k := 7) (x := "script") ["is_arrangement"] rfl (by decide) rfl ⟨rfl, by decide, by decide⟩ (fun w h Y => PySem.W.kIn_of Y) (by decide +kernel) ?F
  case F =>
    intro w mg fa h KX G hmg TF
    refine' My.all_mk KX G hmg TF ?a1 ?l1 ?c1 ?k1 ?a2 ?l2 ?c2 ?k2 ?a3 ?l3 ?c3 ?k3 ?a4 ?l4 ?c4 ?k4 ?t4 ?u4 ?v4 ?a5 ?l5 ?c5 ?k5 ?a6 ?l6 ?c6 ?k6 ?a7 ?l7 ?c7 ?k7 ?a8 ?l8 ?c8 ?k8 ?a9 ?l9 ?c9 ?k9 ?a10 ?l10 ?c10 ?k10 ?a11 ?l11 ?c11 ?k11 ?a12 ?l12 ?c12 ?k12 ?a13 ?l13 ?c13 ?k13 ?a14 ?l14 ?c14 ?k14 ?a15 ?l15 ?c15 ?k15 ?a16 ?l16 ?c16 ?k16 ?a17 ?l17 ?c17 ?k17 ?a18 ?l18 ?c18 ?k18 ?a19 ?l19 ?c19 ?k19 ?a20 ?l20 ?c20 ?k20 ?a21 ?l21 ?c21 ?k21 ?aQ1 ?xQ1 ?kQ1 ?bQ1 ?tQ1 ?iQ1 ?sQ1 ?aQ2 ?xQ2 ?kQ2 ?bQ2 ?tQ2 ?iQ2 ?sQ2 ?gM0 ?nV0 ?hn0 ?ht0 ?hgQ1 ?hkQ1 ?hdQ1 ?haQ1 ?hmQ1 ?kMQ1 ?kVQ1 ?z_range ?z_len ?z_int ?z_abs ?z_max ?z_min ?z_list ?z_tuple ?z_reversed ?z_enumerate ?z_zip ?z_isinstance ?z_bool ?z_repr ?z_all ?z_sorted ?z_any ?z_divmod ?z_set ?g_GREATEST_LISTED
    (case a1 => k_is)
    (case l1 => k_is)
    (case c1 => k_is)
    (case k1 => k_is)
    (case a2 => k_is)
    (case l2 => k_is)
    (case c2 => k_is)
    (case k2 => k_is)
    (case a3 => k_is)
    (case l3 => k_is)
    (case c3 => k_is)
    (case k3 => k_is)
    (case a4 => k_is)
    (case l4 => k_is)
    (case c4 => k_is)
    (case k4 => k_is)
    (case t4 => k_is)
    (case u4 => first | rfl | k_is)
    (case v4 => first | rfl | k_is)
    (case a5 => k_is)
    (case l5 => k_is)
    (case c5 => k_is)
    (case k5 => k_is)
    (case a6 => k_is)
    (case l6 => k_is)
    (case c6 => k_is)
    (case k6 => k_is)
    (case a7 => k_is)
    (case l7 => k_is)
    (case c7 => k_is)
    (case k7 => k_is)
    (case a8 => k_is)
    (case l8 => k_is)
    (case c8 => k_is)
    (case k8 => k_is)
    (case a9 => k_is)
    (case l9 => k_is)
    (case c9 => k_is)
    (case k9 => k_is)
    (case a10 => k_is)
    (case l10 => k_is)
    (case c10 => k_is)
    (case k10 => k_is)
    (case a11 => k_is)
    (case l11 => k_is)
    (case c11 => k_is)
    (case k11 => k_is)
    (case a12 => k_is)
    (case l12 => k_is)
    (case c12 => k_is)
    (case k12 => k_is)
    (case a13 => k_is)
    (case l13 => k_is)
    (case c13 => k_is)
    (case k13 => k_is)
    (case a14 => k_is)
    (case l14 => k_is)
    (case c14 => k_is)
    (case k14 => k_is)
    (case a15 => k_is)
    (case l15 => k_is)
    (case c15 => k_is)
    (case k15 => k_is)
    (case a16 => k_is)
    (case l16 => k_is)
    (case c16 => k_is)
    (case k16 => k_is)
    (case a17 => k_is)
    (case l17 => k_is)
    (case c17 => k_is)
    (case k17 => k_is)
    (case a18 => k_is)
    (case l18 => k_is)
    (case c18 => k_is)
    (case k18 => k_is)
    (case a19 => k_is)
    (case l19 => k_is)
    (case c19 => k_is)
    (case k19 => k_is)
    (case a20 => k_is)
    (case l20 => k_is)
    (case c20 => k_is)
    (case k20 => k_is)
    (case a21 => k_is)
    (case l21 => k_is)
    (case c21 => k_is)
    (case k21 => k_is)
    (case aQ1 => k_is)
    (case xQ1 => k_exc)
    (case kQ1 => k_is)
    (case bQ1 => k_is)
    (case tQ1 => k_is)
    (case iQ1 => k_is)
    (case sQ1 => first | rfl | k_is)
    (case aQ2 => k_is)
    (case xQ2 => k_exc)
    (case kQ2 => k_is)
    (case bQ2 => k_is)
    (case tQ2 => k_is)
    (case iQ2 => k_is)
    (case sQ2 => first | rfl | k_is)
    (case gM0 => k_is)
    (case nV0 => k_is)
    (case hn0 => first | rfl | k_is)
    (case ht0 => first | rfl | k_is)
    (case hgQ1 => k_is)
    (case hkQ1 => k_is)
    (case hdQ1 => first | rfl | k_is)
    (case haQ1 => k_is)
    (case hmQ1 => first | rfl | k_is)
    (case kMQ1 => first | rfl | k_is)
    (case kVQ1 => first | rfl | k_is)
    (case z_range => k_is)
    (case z_len => k_is)
    (case z_int => k_is)
    (case z_abs => k_is)
    (case z_max => k_is)
    (case z_min => k_is)
    (case z_list => k_is)
    (case z_tuple => k_is)
    (case z_reversed => k_is)
    (case z_enumerate => k_is)
    (case z_zip => k_is)
    (case z_isinstance => k_is)
    (case z_bool => k_is)
    (case z_repr => k_is)
    (case z_all => k_is)
    (case z_sorted => k_is)
    (case z_any => k_is)
    (case z_divmod => k_is)
    (case z_set => k_is)
    (case g_GREATEST_LISTED => k_is)
