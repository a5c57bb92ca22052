import PyProof.Rows.All
import Wide.All
import OpenK.AllK
import Wide.FinOn
import KE.KStateDown
import KE.KIsAll
import KE.KTryMore
import PyProof.ReprRoads
import HandS.ForMost
import HandS.Defaults
import HandS.ExcInit
import HandS.ExcField
import HandS.ExcIs
import HandS.IsInst
import HandS.WideBits
import HandS.Zip
import HandS.TupAny
import HandS.More
import HandS.Dict
import KE.LtSeq
import KE.DataEq
import HandS.DictTup
import HandS.Style
import KE.KRevSl
import HandS.SetTxt0
import HandS.SetBool
import HandS.Set
import KE.GoesMore
import HandS.DictComp
import HandS.Head0
import HandS.Head1
import HandS.Head2
import HandS.HeadEnd
import HandS.HeadHook1
import HandS.HeadHook2
import PySem.Challenge.RW_bykindalone_k02_whole_kinds_of_anything
set_option Elab.async false
set_option linter.all false
set_option maxRecDepth 100000
set_option maxHeartbeats 4100000
namespace KB
open PySem L2 PySem.Spec PyProof.Rows
def RunG (P : Program) (w : World) (K : PySem.W.Frag) (mg : Str → Option Value) (base : Heap) (k : Nat) (f : Addr) (fd : FuncData) (ps : List Str) (sp : Sp) : Prop :=
  ∀ (A : Around) (outer : List Env) (s : Shared) (H : Hp) (args : Args) (us : List Value) (vs : List V) (Q : VK),
    A.guards = some [] → Room k A → Env0 P w K mg base A outer s H → BindsTo s fd args (ps.zip us) → Vals vs us → sp vs H Q E0 →
      codeAny (model P w) A (.call (.ref f) args) (fun r z => CR CX0 outer P w H s Q E0 r z) s
structure FnG (P : Program) (w : World) (K : PySem.W.Frag) (mg : Str → Option Value) (base : Heap) (k : Nat) (f : Addr) (fd : FuncData) (ps : List Str) (sp : Sp) : Prop where
  many : ∀ vs H Q, sp vs H Q E0 → vs.length = ps.length
  go : RunG P w K mg base k f fd ps sp
theorem FnG.of {P : Program} {w : World} {K : PySem.W.Frag} {mg : Str → Option Value} {base : Heap} {k : Nat} {f : Addr} {fd : FuncData} {ps : List Str} {sp : Sp}
    (F : FnOk P w K mg base CX0 k f fd ps sp) : FnG P w K mg base k f fd ps sp :=
  ⟨fun vs H Q h => F.len vs H Q _ h, fun A o s H a us vs Q _ hr e b v h => F.run A o s H a us vs Q _ hr e b v h⟩
section
variable {X : Cx} {k : Nat} {f : Addr} {fd : FuncData} {ps : List Str} {sp : Sp} {dvs : List V} {ds : List Value}
theorem runG {pins : List (Addr × Obj)} {σ : L2.St} {H : Hp} {s : Shared} {Q : VK} {us : List Value} {vs : List V}
    (F : FnG X.prog X.w X.K X.mg X.base k f fd ps sp) (hg : X.A.guards = some []) (hr : Room k X.A) (hb : Binds X.K fd ps ds) (hd : Vals dvs ds)
    (I : Inv X pins σ H s) (r : Vals vs us) (h : sp (vs ++ dvs) H Q E0) : wpAny (model X.prog X.w) X.A (call (.ref f) us) (EP X pins σ Q) X.xe s := by
  have both := r.append hd
  have hl : (us ++ ds).length = ps.length := both.length.symm.trans (F.many _ _ _ h)
  have body := F.go X.A X.stack s H ⟨us, []⟩ _ _ Q hg hr I.env0 (hb s us I.kIn hl) both h
  refine wpAny_call (codeAny_mono body fun r z hq => ?_)
  match r, hq with
  | .ok (.ret u), hq => exact I.after hq
theorem pe_callG {x : Str} {p pos : Pos} {e : Expr} {es : List Expr} {t : TA} (F : FnG X.prog X.w X.K X.mg X.base k f fd ps sp) (hgd : X.A.guards = some []) (hr : Room k X.A)
    (hg : Gl X x) (hm : X.mg x = some (.ref f)) (hk : PySem.W.keepIn X.K (.ref f) = true) (hb : Binds X.K fd ps ds) (hd : Vals dvs ds) (ha : PA X (e :: es) t) (hdb : (x == ("__debug__" : Str)) = false := by decide) (he : starEach (e :: es) X.env = (false, eval e X.env) :: starEach es X.env := by rfl)
    (hpl : (backTo pos (starEach es X.env)).any (·.1) = false := by rfl) : PE X (.Call (.Name x p) (e :: es) [] pos) (tCall sp dvs E0 t) :=
  ⟨fun pins s σ H Q I h => wpAny_Call_Name_kw (ld_glob I hg hm (PySem.W.callWith_K (h₀ := X.base) I.ok.mod.kin hk
    (thn (ha.run pos pins s σ H _ I h) fun us s1 ⟨vs, H1, I1, r, q⟩ => ⟨I1.kIn, runG F hgd hr hb hd I1 r q⟩) he hpl) hdb)⟩
end
theorem okG {P : Program} {w : World} {K : PySem.W.Frag} {mg : Str → Option Value} {base : Heap} {x qual : Str} {params : Arguments} {body : List Stmt} {scope : Scope} {dvs : List V} {kws : List (Str × V)}
    {f : Addr} {fd : FuncData} {N ps : List Str} {k : Nat} {sp : Sp} (F : FunD K x qual params body scope dvs kws f fd) (S : FnScope N ps scope)
    (many : ∀ vs H Q, sp vs H Q E0 → vs.length = ps.length)
    (hbody : ∀ (cdv : Value) (A : Around) (outer : List Env) (s : Shared) (H : Hp) (vs : List V) (Q : VK),
      (A.deeper (envOfC qual scope s.heap.objs.size f cdv)).guards = some [] → Room k (A.deeper (envOfC qual scope s.heap.objs.size f cdv)) → sp vs H Q E0 →
      ∃ t, PSs (cxOf CX0 P w K mg base N qual scope f cdv A outer s H E0).nox body t ∧ t { nx := fun _ H' => Q .non H', rt := Q } (start N vs) H) :
    FnG P w K mg base (k + 1) f fd ps sp := by
  (obtain ⟨oc, od, dV, kV, doc, pm, an, cdv, ct, osl, rfl, lk, hcd, _, _⟩ := F.ex)
  refine ⟨many, ?_⟩
  intro A outer s H args us vs Q hgd hr e0 hb r hsp
  have old : ∀ b o, base.get? b = some o → s.heap.get? b = some o := fun b o e => (e0.bs b o e).1
  have KX : K.In s.heap := e0.mod.kin.keeps old
  have slots : ∀ y ∈ ps.zip us, scope.names.lookup y.1 = some .local ∨
      (scope.names.lookup y.1 = some .cell ∧ ((cellsFrom (s.heap.objs.size + 1) scope.names []).lookup y.1).isSome = true) := by
    intro y hy
    cases S.par y.1 (List.of_mem_zip (show (y.1, y.2) ∈ ps.zip us from hy)).1 with
    | inl q => exact .inl q
    | inr q => exact .inr ⟨q, PySem.W.cellsFrom_some _ _ _ (.inl q)⟩
  (refine codeAny_call_function hr.depth (KX _ _ lk) rfl S.co S.gen rfl (PySem.W.codeRec_of KX hcd) (hb _ _ _ _ ?_))
  refine wpAny_newFunctionEnv_cells S.kind slots fun env he s1 ic => ?_
  subst he
  refine ⟨(e0.mod.nolimit.keeps old).keeps ic.toInCall.keep, codeAny_func ?_⟩
  obtain ⟨t, ht, hq⟩ := hbody cdv A outer s H vs Q hgd (hr.deeper _) hsp
  have I : Inv (cxOf CX0 P w K mg base N qual scope f cdv A outer s H E0) [] (start N vs) H s1 := inv_start S hr.hd e0 (many _ _ _ hsp) r ic
  refine wpAny_mono (ht.nox.run [] s1 (start N vs) H _ I hq) (fun fl s' hs => ?_) fun e s' hs => hs
  match fl, hs with
  | .ret u, ⟨v, σ', H', J, rv, q⟩ => exact ⟨v, H', J.os, J.bare, J.base, J.hok, rv, q⟩
  | .next, ⟨σ', H', J, q⟩ => exact ⟨V.non, H', J.os, J.bare, J.base, J.hok, rfl, q⟩
  | .brk, ⟨_, _, _, q⟩ => exact q.elim
  | .cont, ⟨_, _, _, q⟩ => exact q.elim
theorem law_callG {P : Program} {w : World} {K : PySem.W.Frag} {mg mb : Str → Option Value} {k : Nat} {fa a : Addr} {fd : FuncData} {x : Str} {sp : Sp} {z : Shared} {vs : List Value} {ns : List Int}
    (KX : K.In z.heap) (hns : z.heap.Ns mainGlobals mg) (hb : z.heap.Ns builtinsNs mb) (hbb : ∀ x : Str, x ≠ "__name__" → mb x = bootBuiltins x) (hlim : z.heap.NoLimit) (hg : z.gens = #[])
    (ha : z.heap.get? a = some { cls := .type "list", data := .seq vs.toArray }) (hi : IntsAre vs ns) (hl : ns.length ≤ sizeLine) (hr : Room k callerA)
    (F : ∀ base : Heap, K.In base → base.Ns mainGlobals mg → FnG P w K mg base k fa fd [x] sp) (hbind : ∀ (s : Shared) (u : Value), BindsTo s fd ⟨[u], []⟩ [(x, u)])
    (hsp : ∀ H : Hp, Only H → SqL K H a (ns.map V.int) → sp [.ref a] H (fun v _ => v = .bl true) E0) :
    codeAny (model P w) callerA (.call (.ref fa) ⟨[.ref a], []⟩) (fun r s' => r = .ok (.ret (.bool true)) ∧ OldK z.heap s'.heap ∧ s'.os = z.os ∧ AllBare s'.gens) z := by
  have rv := vals_ints hi
  have many := hi.length
  have core : ∀ H : Hp, Only H → SqL K H a (ns.map V.int) → HOk P w H z.heap → (∀ b, H b ≠ none → b = a) → (H a ≠ none → K.lookup a = none) →
      codeAny (model P w) callerA (.call (.ref fa) ⟨[.ref a], []⟩) (fun r s' => r = .ok (.ret (.bool true)) ∧ OldK z.heap s'.heap ∧ s'.os = z.os ∧ AllBare s'.gens) z := by
    intro H hO hS hok hA hK
    have atA : ∀ {b : Addr}, H b ≠ none → z.heap.get? b = some { cls := .type "list", data := .seq vs.toArray } := fun {b} q => by rw [hA b q]; exact ha
    have dictFree : ∀ {b : Addr} {o : Obj} {es : Array DictEntry} {ep : Nat}, z.heap.get? b = some o → o.data = .dict es ep → H b = none := by
      intro b o es ep e d
      by_cases q : H b = none
      · exact q
      · rw [atA q] at e
        cases e
        cases (show Data.seq vs.toArray _ = Data.dict es ep from d)
    have nsK : ∀ {b : Addr} {m : Str → Option Value}, z.heap.Ns b m → (hidT z.heap H).Ns b m :=
      fun ⟨o, es, ep, e, d, r⟩ => ⟨o, es, ep, hidT_get e (dictFree e d), d, r⟩
    have inB : K.In (hidT z.heap H) := by
      intro b o e
      refine hidT_get (KX b o e) ?_
      by_cases q : H b = none
      · exact q
      · have eb := hA b q
        subst eb
        rw [hK q] at e
        cases e
    obtain ⟨mc, lim1, lim2⟩ := hlim
    have M : Mod K mg (hidT z.heap H) := ⟨inB, nsK hns, ⟨mb, nsK hb, hbb⟩, ⟨mc, nsK lim1, lim2⟩⟩
    have e0 : Env0 P w K mg (hidT z.heap H) callerA [] z H :=
      { frames := rfl, mod := M, bs := fun b o e => of_hidT e, bsz := Nat.le_of_eq (hidT_size _ _), funs := trivial, frf := fun b q => (by cases (show b ∈ ([] : List Addr) from q)), hok := hok, bare := .of_eq hg }
    have run := (F _ inB (nsK hns)).go callerA [] z H ⟨[.ref a], []⟩ [.ref a] [.ref a] (fun v _ => v = .bl true) rfl hr e0 (hbind z (.ref a)) (.cons rfl .nil) (hsp H hO hS)
    refine codeAny_mono run fun r s' h => ?_
    match r, h with
    | .ok (.ret u), ⟨v, H', os, bare, un, hok', r', q⟩ =>
      subst q
      (obtain rfl : u = Value.bool true := r')
      (refine ⟨rfl, OldK.of_keep fun b o e => ?_, os, bare⟩)
      by_cases q : H b = none
      · exact un.keep b o e q (fun y => by cases (show b ∈ ([] : List Addr) from y)) (fun y => by cases y)
      · rcases hO b with y | ⟨ob, xs, y⟩
        · exact absurd y q
        · have g1 := (hok b _ y).1
          have g2 := (hok' b _ (un.frzs b ob _ y)).1
          rw [e] at g1
          cases g1
          exact g2
  by_cases hk : K.lookup a = none
  · have at1 : ∀ b, (if b = a then some (HO.frz { cls := .type "list", data := .seq vs.toArray } (.lst (ns.map V.int))) else none) ≠ none → b = a := fun b q => by
      by_cases hb : b = a
      · exact hb
      · exact absurd (if_neg hb) q
    refine core (fun b => if b = a then some (.frz { cls := .type "list", data := .seq vs.toArray } (.lst (ns.map V.int))) else none) (fun b => ?_) (.inl (.inr ⟨{ cls := .type "list", data := .seq vs.toArray }, if_pos rfl⟩)) (fun b u q => ?_) at1 fun _ => hk
    · by_cases hb : b = a
      · (exact .inr ⟨_, _, if_pos hb⟩)
      · exact .inl (if_neg hb)
    · have hb := at1 b (fun y => nomatch q.symm.trans y)
      have q2 := (if_pos hb).symm.trans q
      cases q2
      subst hb
      (exact ⟨ha, by rw [List.length_map]; exact hl, vs, _, rv, ha⟩)
  · cases hk2 : K.lookup a with
    | none => exact absurd hk2 hk
    | some o =>
      have e := KX a o hk2
      rw [ha] at e
      cases e
      refine core (fun _ => none) (fun _ => .inl rfl) (.inr ⟨_, vs.toArray, _, hk2, rfl, rfl, rfl, by rw [List.size_toArray, many]; exact hl, by simpa using rv⟩) (fun b u q => ?_) (fun b q => absurd rfl q) fun q => absurd rfl q
      cases (show (none : Option HO) = some u from q)
theorem walk_ofG {l : PySem.W.OpenLaw} {n k : Nat} {q : Program} {loose : List Str} {XP : (Str → Option Value) → Heap → Prop} {YP : World → Heap → Prop} {d : DefRec} {x : Str} (hn : l.most = some n) (hn2 : n ≤ sizeLine) (hdf : d.params.defaults = []) (hr : Room k callerA) (F : ∀ (w : World) (mg : Str → Option Value) (fa : Addr) (h : Heap), YP w h → h.Ns mainGlobals mg → mg d.name = some (.ref fa) → ∃ (K : PySem.W.Frag) (fd : FuncData) (sp : Sp), K.In h ∧ (∀ (s : Shared) (u : Value), BindsTo s fd ⟨[u], []⟩ [(x, u)]) ∧
        (∀ (H : Hp) (a : Addr) (ns : List Int), ns.length ≤ n → Only H → SqL K H a (ns.map V.int) → sp [.ref a] H (fun v _ => v = .bl true) E0) ∧
        ∀ base : Heap, K.In base → base.Ns mainGlobals mg → FnG l.prog w K mg base k fa fd [x] sp) : PySem.W.WalkO q loose XP YP l.row.toRowW d [] (fun f vs => PySem.call f vs) := by
  refine Att.attach_call hn hdf fun w s0 s1 mg mb fa o pm cd doc a vs ns G Y ho hd hcd hmg hobj hints hlen hg => ?_
  (obtain ⟨K, fd, sp, KX, hb, hsp, hF⟩ := F w mg fa _ Y G.T.g hmg)
  exact law_callG KX G.T.g G.T.b G.T.builtins G.T.nolimit hg hobj hints (Nat.le_trans hlen hn2) hr hF hb (fun H hO hS => hsp H a ns hlen hO hS)
end KB
namespace KB
open PySem L2 PySem.Spec PyProof.Rows
mutual
inductive Dt (F : Addr → Prop) (H : Hp) : V → PyData → Prop
  | non : Dt F H .non .none
  | bl (b : Bool) : Dt F H (.bl b) (.bool b)
  | int (i : Int) : Dt F H (.int i) (.int i)
  | str (x : Str) : Dt F H (.str x) (.str x)
  | lst {a : Addr} {xs : List V} {ds : List PyData} (f : F a) (h : H a = some (.lst xs)) (r : DtA F H xs ds) : Dt F H (.ref a) (.list ds)
  | tup {a : Addr} {xs : List V} {ds : List PyData} (f : F a) (h : H a = some (.tup xs)) (r : DtA F H xs ds) : Dt F H (.ref a) (.tuple ds)
  | emp {a : Addr} (f : F a) (h : H a = some (.dK [])) : Dt F H (.ref a) (.dict [])
inductive DtA (F : Addr → Prop) (H : Hp) : List V → List PyData → Prop
  | nil : DtA F H [] []
  | cons {v : V} {vs : List V} {d : PyData} {ds : List PyData} (h : Dt F H v d) (r : DtA F H vs ds) : DtA F H (v :: vs) (d :: ds)
end
section
variable {F G : Addr → Prop} {H H' : Hp}
mutual
theorem Dt.move (k : ∀ a o, F a → H a = some o → G a ∧ H' a = some o) : ∀ {v : V} {d : PyData}, Dt F H v d → Dt G H' v d
  | _, _, .non => .non
  | _, _, .bl b => .bl b
  | _, _, .int i => .int i
  | _, _, .str x => .str x
  | _, _, .lst f h r => .lst (k _ _ f h).1 (k _ _ f h).2 (DtA.move k r)
  | _, _, .tup f h r => .tup (k _ _ f h).1 (k _ _ f h).2 (DtA.move k r)
  | _, _, .emp f h => .emp (k _ _ f h).1 (k _ _ f h).2
theorem DtA.move (k : ∀ a o, F a → H a = some o → G a ∧ H' a = some o) : ∀ {vs : List V} {ds : List PyData}, DtA F H vs ds → DtA G H' vs ds
  | _, _, .nil => .nil
  | _, _, .cons h r => .cons (Dt.move k h) (DtA.move k r)
end
theorem DtA.length : ∀ {vs : List V} {ds : List PyData}, DtA F H vs ds → vs.length = ds.length
  | _, _, .nil => rfl
  | _, _, .cons _ r => congrArg (· + 1) r.length
theorem DtA.get : ∀ {vs : List V} {ds : List PyData} {i : Nat} {v : V}, DtA F H vs ds → vs[i]? = some v → ∃ d, ds[i]? = some d ∧ Dt F H v d
  | _, _, _, _, DtA.nil, e => by simp at e
  | _, _, 0, _, .cons h _, e => by
    simp at e
    subst e
    exact ⟨_, rfl, h⟩
  | _, _, i + 1, v, .cons _ r, e => by
    obtain ⟨d, e1, h⟩ := DtA.get (i := i) r (by simpa using e)
    exact ⟨d, by simpa using e1, h⟩
theorem DtA.append : ∀ {vs ws : List V} {ds es : List PyData}, DtA F H vs ds → DtA F H ws es → DtA F H (vs ++ ws) (ds ++ es)
  | _, _, _, _, .nil, s => s
  | _, _, _, _, .cons h r, s => .cons h (DtA.append r s)
theorem DtA.set {v : V} {d : PyData} (h : Dt F H v d) : ∀ {vs : List V} {ds : List PyData} (i : Nat), DtA F H vs ds → DtA F H (vs.set i v) (ds.set i d)
  | _, _, _, .nil => .nil
  | _, _, 0, .cons _ r => .cons h r
  | _, _, i + 1, .cons q r => .cons q (DtA.set h i r)
end
def SysIn (K : PySem.W.Frag) : Prop := ∃ o, K.lookup sysModules = some o
section
variable {X : Cx} {pins : List (Addr × Obj)} {σ : L2.St} {H : Hp} {s : Shared} {F : Addr → Prop}
theorem sys_none (I : Inv X pins σ H s) (hS : SysIn X.K) : H sysModules = none := by
  obtain ⟨o, e⟩ := hS
  exact (I.bs _ _ (I.ok.mod.kin _ _ e)).2
theorem sys_ne (I : Inv X pins σ H s) (hS : SysIn X.K) {a : Addr} {o : HO} (h : H a = some o) : sysModules ≠ a := fun e => by
  rw [← e, sys_none I hS] at h
  cases h
mutual
theorem Dt.reads (I : Inv X pins σ H s) (hS : SysIn X.K) : ∀ {v : V} {d : PyData} {u : Value}, Dt F H v d → RelV v u → ∃ as, Reads s.heap u d as ∧ sysModules ∉ as
  | _, _, _, .non, r => by
    cases r
    exact ⟨[], .none, by simp⟩
  | _, _, _, .bl b, r => by
    cases r
    exact ⟨[], .bool b, by simp⟩
  | _, _, _, .int i, r => by
    obtain ⟨t, rfl⟩ := r
    exact ⟨[], .int i t, by simp⟩
  | _, _, _, .str x, r => by
    obtain ⟨t, rfl⟩ := r
    exact ⟨[], .str x t, by simp⟩
  | _, _, _, .lst (a := a) (xs := xs) f h q, r => by
    cases r
    obtain ⟨_, its, n, rv, ho⟩ := (show ObjOk X.prog X.w H s.heap a (.lst xs) from I.hok a _ h)
    obtain ⟨as, hr, hn⟩ := DtA.reads I hS q rv
    exact ⟨a :: as, Reads.list ho rfl rfl (by simpa using hr), fun z => (List.mem_cons.mp z).elim (sys_ne I hS h) hn⟩
  | _, _, _, .tup (a := a) (xs := xs) f h q, r => by
    cases r
    obtain ⟨_, its, rv, o, ho, hc, n, hd⟩ := (show ObjOk X.prog X.w H s.heap a (.tup xs) from I.hok a _ h)
    obtain ⟨as, hr, hn⟩ := DtA.reads I hS q rv
    exact ⟨as, Reads.tuple ho hc hd (by simpa using hr), hn⟩
  | _, _, _, .emp (a := a) f h, r => by
    cases r
    obtain ⟨_, _, vs, kv, o, es, ep, ho, hx, hd, _, hm, _⟩ := (show ObjOk X.prog X.w H s.heap a (.dK []) from I.hok a _ h)
    cases kv
    have he : es.toList = [] := by
      have hl := PySem.Pairs.length hm
      exact List.length_eq_zero_iff.mp (by simpa using hl)
    refine ⟨[a], Reads.dict (as := []) (bs := []) ho hx.1 hd (by rw [he]; exact .nil) (by rw [he]; exact .nil), fun z => ?_⟩
    exact sys_ne I hS h (List.mem_singleton.mp z)
theorem DtA.reads (I : Inv X pins σ H s) (hS : SysIn X.K) : ∀ {vs : List V} {ds : List PyData} {us : List Value}, DtA F H vs ds → Vals vs us → ∃ as, ReadsAll s.heap us ds as ∧ sysModules ∉ as
  | _, _, _, .nil, r => by
    cases r
    exact ⟨[], .nil, by simp⟩
  | _, _, _, .cons h q, r => by
    cases r with
    | cons r1 r2 =>
      obtain ⟨as, h1, n1⟩ := Dt.reads I hS h r1
      obtain ⟨bs, h2, n2⟩ := DtA.reads I hS q r2
      exact ⟨as ++ bs, .cons h1 h2, fun z => (List.mem_append.mp z).elim n1 n2⟩
end
def rRepr : List V → Hp → VK → Prop := fun xs H Q => ∃ (F : Addr → Prop) (v : V) (d : PyData), xs = [v] ∧ Dt F H v d ∧ d.showable = true ∧ d.depth ≤ 60 ∧ d.shown.length ≤ sizeLine ∧ Q (.str d.shown) H
theorem call_repr {k : Nat} (hS : SysIn X.K) (hg : X.A.guards = some []) (hr : Room k X.A) : CallR X (.builtin "repr") rRepr := by
  (intro pins s σ H xs us Q I r h)
  obtain ⟨F, v, d, rfl, hd, sh, dp, ln, q⟩ := h
  (obtain ⟨u, rfl, ru⟩ := vals1 r)
  obtain ⟨as, rd, hn⟩ := hd.reads I hS ru
  have room := hr.units
  cases rd with
  | none =>
    simp only [PyData.shown] at q
    exact PySem.P.repr_of_none ⟨.str _, H, I.tok _, ⟨_, rfl⟩, q⟩
  | bool b =>
    simp only [PyData.shown] at q
    exact PySem.P.repr_of_bool ⟨.str _, H, I.tok _, ⟨_, rfl⟩, q⟩
  | int i t =>
    simp only [PyData.shown] at q
    exact PySem.P.repr_of_int (by simpa [PyData.showable] using sh) ⟨.str _, H, I.tok _, ⟨_, rfl⟩, q⟩
  | str x t =>
    simp only [PyData.shown] at q ln
    exact PySem.P.repr_of_str ⟨.str _, H, I.tok _, ⟨_, rfl⟩, q⟩ ln
  | list h1 h2 h3 h4 => exact repr_of_reads' (.list h1 h2 h3 h4) sh (fun _ => hn) hg (by omega) (fun _ _ e => e) (fun h' u tk k => ⟨.str _, H, I.kept k, ⟨_, rfl⟩, q⟩) ln
  | tuple h1 h2 h3 h4 => exact repr_of_reads' (.tuple h1 h2 h3 h4) sh (fun _ => hn) hg (by omega) (fun _ _ e => e) (fun h' u tk k => ⟨.str _, H, I.kept k, ⟨_, rfl⟩, q⟩) ln
  | dict h1 h2 h3 h4 h5 => exact repr_of_reads' (.dict h1 h2 h3 h4 h5) sh (fun _ => hn) hg (by omega) (fun _ _ e => e) (fun h' u tk k => ⟨.str _, H, I.kept k, ⟨_, rfl⟩, q⟩) ln
end
end KB
namespace KB
open PySem L2 PySem.Spec PyProof.Rows
def Wl (H : Hp) (w : Addr) (c : Int) : Prop := ∃ n m z : Int, H w = some (.lst [.int n, .int m, .int c, .int z]) ∧ 0 ≤ n ∧ 0 ≤ m ∧ m < 2147483587 ∧ 0 ≤ c
def Kw (w : Addr) (H H' : Hp) : Prop := ∀ b o, b ≠ w → H b = some o → H' b = some o
theorem Kw.refl (w : Addr) (H : Hp) : Kw w H H := fun _ _ _ h => h
theorem Kw.trans {w : Addr} {H H1 H2 : Hp} (a : Kw w H H1) (b : Kw w H1 H2) : Kw w H H2 := fun c o n h => b c o n (a c o n h)
theorem Kw.same {w : Addr} {H H' : Hp} (a : Same H H') : Kw w H H' := fun b o _ h => a b o h
theorem Kw.put {w : Addr} {H : Hp} {o : HO} : Kw w H (upd H w o) := fun b u n h => by rw [upd_ne n]; exact h
theorem Kw.new {w p : Addr} {H : Hp} {o : HO} (h : H p = none) : Kw w H (upd H p o) := fun b u _ q => by rw [upd_ne (ne_of_none q h)]; exact q
theorem Same.new {p : Addr} {H : Hp} {o : HO} (h : H p = none) : Same H (upd H p o) := fun b u q => by rw [upd_ne (ne_of_none q h)]; exact q
theorem Wl.ne {H : Hp} {w p : Addr} {c : Int} (h : Wl H w c) (q : H p = none) : w ≠ p := by
  obtain ⟨n, m, z, e, _⟩ := h
  exact ne_of_none e q
theorem Wl.same {H H' : Hp} {w : Addr} {c : Int} (h : Wl H w c) (k : Same H H') : Wl H' w c := by
  obtain ⟨n, m, z, e, r⟩ := h
  exact ⟨n, m, z, k _ _ e, r⟩
theorem Wl.some {H : Hp} {w : Addr} {c : Int} (h : Wl H w c) : H w ≠ none := by
  obtain ⟨n, m, z, e, _⟩ := h
  rw [e]
  exact fun q => nomatch q
def spDraw : Sp := fun vs H Q _ => ∃ (w : Addr) (k c : Int), vs = [.ref w, .int k] ∧ Wl H w c ∧ c < 2 ^ 60 ∧ 0 < k ∧ k < 2 ^ 29 ∧
  ∀ (r c' : Int) (H' : Hp), 0 ≤ r → r < k → Kw w H H' → Wl H' w c' → c' ≤ c + 1 → Q (.int r) H'
theorem at0 {a b c d : V} : atI [a, b, c, d] (0 : Int) = some a := atI_nat (j := 0) rfl
theorem at1 {a b c d : V} : atI [a, b, c, d] (1 : Int) = some b := atI_nat (j := 1) rfl
theorem at2 {a b c d : V} : atI [a, b, c, d] (2 : Int) = some c := atI_nat (j := 2) rfl
theorem at3 {a b c d : V} : atI [a, b, c, d] (3 : Int) = some d := atI_nat (j := 3) rfl
end KB
namespace KB
open PySem L2 PySem.Spec PyProof.Rows
abbrev New (H : Hp) : Addr → Prop := fun a => H a = none
def DE (te : TE) (d : PyData) : Prop := ∀ (σ : L2.St) (H : Hp) (Q : VK), (∀ v H', Same H H' → Dt (New H) H' v d → Q v H') → te σ H Q
def DA (ta : TA) (ds : List PyData) : Prop := ∀ (σ : L2.St) (H : Hp) (Q : List V → Hp → Prop), (∀ vs H', Same H H' → DtA (New H) H' vs ds → Q vs H') → ta σ H Q
theorem Dt.grow {H H1 H2 : Hp} {v : V} {d : PyData} (h : Dt (New H) H1 v d) (k : Same H1 H2) : Dt (New H) H2 v d := h.move fun a o f e => ⟨f, k a o e⟩
theorem DtA.grow {H H1 H2 : Hp} {v : List V} {d : List PyData} (h : DtA (New H) H1 v d) (k : Same H1 H2) : DtA (New H) H2 v d := h.move fun a o f e => ⟨f, k a o e⟩
theorem Dt.back {H H1 H2 : Hp} {v : V} {d : PyData} (h : Dt (New H1) H2 v d) (k : Same H H1) : Dt (New H) H2 v d := h.move fun a o f e => ⟨k.free f, e⟩
theorem DtA.back {H H1 H2 : Hp} {v : List V} {d : List PyData} (h : DtA (New H1) H2 v d) (k : Same H H1) : DtA (New H) H2 v d := h.move fun a o f e => ⟨k.free f, e⟩
theorem de_non : DE (tC .non) .none := fun σ H Q q => q _ H (Same.refl H) .non
theorem de_bl (b : Bool) : DE (tC (.bl b)) (.bool b) := fun σ H Q q => q _ H (Same.refl H) (.bl b)
theorem de_int (i : Int) : DE (tC (.int i)) (.int i) := fun σ H Q q => q _ H (Same.refl H) (.int i)
theorem de_str (x : Str) : DE (tC (.str x)) (.str x) := fun σ H Q q => q _ H (Same.refl H) (.str x)
theorem de_neg (i : Int) : DE (tUn (rU fun i => .int (-i)) (tC (.int i))) (.int (-i)) := fun σ H Q q => ⟨_, rfl, q _ H (Same.refl H) (.int _)⟩
theorem de_pow {i j : Int} (h : CPow i j) : DE (tOp (rI CPow fun i j => .int (i ^ j.toNat)) (tC (.int i)) (tC (.int j))) (.int (i ^ j.toNat)) := fun σ H Q q => ⟨_, _, rfl, rfl, h, q _ H (Same.refl H) (.int _)⟩
theorem de_emp : DE tDNewK (.dict []) := fun σ H Q q p hp => q _ _ (Same.new hp) (.emp hp upd_same)
theorem da_nil : DA tNil [] := fun σ H Q q => q _ H (Same.refl H) .nil
theorem da_cons {te : TE} {t : TA} {d : PyData} {ds : List PyData} (h : DE te d) (r : DA t ds) : DA (tCons te t) (d :: ds) := fun σ H Q q =>
  h σ H _ fun v H1 s1 d1 => r σ H1 _ fun vs H2 s2 d2 => q _ H2 (s1.trans s2) (.cons (d1.grow s2) (d2.back s1))
theorem de_tup {t : TA} {ds : List PyData} (h : DA t ds) (z : ds.length ≤ 1000) : DE (tTup t) (.tuple ds) := fun σ H Q q =>
  h σ H _ fun vs H1 s1 d1 => ⟨Nat.le_of_lt (small1000 (by rw [d1.length]; exact z)), fun p hp => q _ _ (s1.trans (Same.new hp)) (.tup (s1.free hp) upd_same (d1.grow (Same.new hp)))⟩
theorem de_lst {t : TA} {ds : List PyData} (h : DA t ds) (z : ds.length ≤ 1000) : DE (tLst t) (.list ds) := fun σ H Q q =>
  h σ H _ fun vs H1 s1 d1 => ⟨Nat.le_of_lt (small1000 (by rw [d1.length]; exact z)), fun p hp => q _ _ (s1.trans (Same.new hp)) (.lst (s1.free hp) upd_same (d1.grow (Same.new hp)))⟩
structure Gd (n L : Nat) (d : PyData) : Prop where
  sh : d.showable = true
  dp : d.depth ≤ n
  ln : d.shown.length ≤ L
def gdB (n L : Nat) (d : PyData) : Bool := d.showable && (decide (d.depth ≤ n) && decide (d.shown.length ≤ L))
theorem gdB_ok {n L : Nat} {d : PyData} (h : gdB n L d = true) : Gd n L d := by
  obtain ⟨h1, h2⟩ := Bool.and_eq_true_iff.mp h
  obtain ⟨h3, h4⟩ := Bool.and_eq_true_iff.mp h2
  exact ⟨h1, of_decide_eq_true h3, of_decide_eq_true h4⟩
theorem gd_all {n L : Nat} {ds : List PyData} (h : (ds.all fun d => gdB n L d) = true) {i : Nat} {d : PyData} (e : ds[i]? = some d) : Gd n L d :=
  gdB_ok (List.all_eq_true.mp h d (List.mem_of_getElem? e))
theorem Gd.mono {n L m M : Nat} {d : PyData} (h : Gd n L d) (a : n ≤ m) (b : L ≤ M) : Gd m M d := ⟨h.sh, Nat.le_trans h.dp a, Nat.le_trans h.ln b⟩
theorem gd_sum {n L : Nat} : ∀ {ds : List PyData}, (∀ d ∈ ds, Gd n L d) → PyData.showableAll ds = true ∧ PyData.depthAll ds ≤ n ∧ ((PyData.shownAll ds).map (·.length)).sum + 2 * ds.length ≤ (L + 2) * ds.length
  | [], _ => by simp [PyData.showableAll, PyData.depthAll, PyData.shownAll]
  | d :: ds, h => by
    obtain ⟨h1, h2, h3⟩ := gd_sum (ds := ds) fun x hx => h x (List.mem_cons_of_mem _ hx)
    have g := h d List.mem_cons_self
    refine ⟨?_, ?_, ?_⟩
    · simp only [PyData.showableAll, g.sh, h1, Bool.and_self]
    · simp only [PyData.depthAll]
      exact Nat.max_le.mpr ⟨g.dp, h2⟩
    · have ln := g.ln
      simp only [PyData.shownAll, List.map_cons, List.sum_cons, List.length_cons]
      rw [Nat.mul_add, Nat.mul_add]
      omega
theorem gd_tup {n L m : Nat} {ds : List PyData} (h : ∀ d ∈ ds, Gd n L d) (hm : ds.length ≤ m) : Gd (n + 1) ((L + 2) * m + 3) (.tuple ds) := by
  obtain ⟨h1, h2, h3⟩ := gd_sum h
  have hk : (L + 2) * ds.length ≤ (L + 2) * m := Nat.mul_le_mul_left _ hm
  refine ⟨by simp only [PyData.showable, h1], by simp only [PyData.depth]; omega, ?_⟩
  simp only [PyData.shown]
  have q := tupleText_len_le (PyData.shownAll ds)
  rw [PyData.shownAll_length] at q
  omega
theorem gd_lst {n L m : Nat} {ds : List PyData} (h : ∀ d ∈ ds, Gd n L d) (hm : ds.length ≤ m) : Gd (n + 1) ((L + 2) * m + 3) (.list ds) := by
  obtain ⟨h1, h2, h3⟩ := gd_sum h
  have hk : (L + 2) * ds.length ≤ (L + 2) * m := Nat.mul_le_mul_left _ hm
  refine ⟨by simp only [PyData.showable, h1], by simp only [PyData.depth]; omega, ?_⟩
  simp only [PyData.shown]
  have q := listText_len_le (PyData.shownAll ds)
  rw [PyData.shownAll_length] at q
  omega
theorem Kw.seqT {K : PySem.W.Frag} {w t : Addr} {H H' : Hp} {c : Int} {xs : List V} (k : Kw w H H') (hw : Wl H w c) (h : SqT K H t xs) : SqT K H' t xs := by
  obtain ⟨n, m, z, e, _⟩ := hw
  (rcases h with (h | ⟨o, h⟩) | h)
  · exact .inl (.inl (k _ _ (ne_of h e (by intro q; cases q)) h))
  · exact .inl (.inr ⟨o, k _ _ (ne_of h e (by intro q; cases q)) h⟩)
  · exact .inr h
def spPick (K : PySem.W.Frag) : Sp := fun vs H Q _ => ∃ (w t : Addr) (xs : List V) (c : Int), vs = [.ref w, .ref t] ∧ Wl H w c ∧ c < 2 ^ 60 ∧ SqT K H t xs ∧ 0 < xs.length ∧ xs.length ≤ 1000 ∧
  ∀ (i : Nat) (v : V) (c' : Int) (H' : Hp), xs[i]? = some v → Kw w H H' → Wl H' w c' → c' ≤ c + 1 → Q v H'
def spOdd (ds : List PyData) : Sp := fun vs H Q _ => ∃ (w : Addr) (c : Int), vs = [.ref w] ∧ Wl H w c ∧ c < 2 ^ 60 ∧
  ∀ (i : Nat) (v : V) (d : PyData) (c' : Int) (H' : Hp), ds[i]? = some d → Dt (New H) H' v d → Kw w H H' → Wl H' w c' → c' ≤ c + 1 → Q v H'
theorem Kw.data {w : Addr} {H0 H H' : Hp} {v : V} {d : PyData} (k : Kw w H H') (hw : H0 w ≠ none) (h : Dt (New H0) H v d) : Dt (New H0) H' v d :=
  h.move fun a o f e => ⟨f, k a o (fun z => hw (by rw [← z]; exact f)) e⟩
theorem Kw.dataA {w : Addr} {H0 H H' : Hp} {v : List V} {d : List PyData} (k : Kw w H H') (hw : H0 w ≠ none) (h : DtA (New H0) H v d) : DtA (New H0) H' v d :=
  h.move fun a o f e => ⟨f, k a o (fun z => hw (by rw [← z]; exact f)) e⟩
end KB
namespace KB
open PySem L2 PySem.Spec PyProof.Rows
theorem DE.asg {te : TE} {d : PyData} {g : TG} {rest : TS} {D : Ends} {σ : L2.St} {H : Hp} (h : DE te d)
    (k : ∀ v H', Same H H' → Dt (New H) H' v d → g v σ H' fun s2 H2 => rest D s2 H2) : tSeq (tAsg te g) rest D σ H := h σ H _ k
end KB
namespace KB
open PySem L2 PySem.Spec PyProof.Rows
def spWell (K : PySem.W.Frag) : Sp := fun vs H Q _ => ∃ (a : Addr) (ns : List Int) (t : Int), vs = [.ref a, .int t] ∧ SqL K H a (ns.map V.int) ∧ 0 ≤ t ∧ t < 100 ∧
  ∀ (w : Addr) (H' : Hp), H w = none → Same H H' → Wl H' w 0 → Q (.ref w) H'
theorem cut_ints (ns : List Int) (lo hi : Option Int) : ∀ y ∈ cutV (ns.map V.int) lo hi, ∃ k, y = V.int k := by
  intro y hy
  unfold cutV at hy
  have h1 := List.mem_of_mem_drop (List.mem_of_mem_take hy)
  obtain ⟨k, _, e⟩ := List.mem_map.mp h1
  exact ⟨k, e.symm⟩
end KB
namespace KB
open PySem L2 PySem.Spec PyProof.Rows
abbrev Nw (w : Addr) : Addr → Prop := fun a => a ≠ w
theorem Dt.kw {w : Addr} {H H' : Hp} {v : V} {d : PyData} (h : Dt (Nw w) H v d) (k : Kw w H H') : Dt (Nw w) H' v d := h.move fun a o f e => ⟨f, k a o f e⟩
theorem DtA.kw {w : Addr} {H H' : Hp} {v : List V} {d : List PyData} (h : DtA (Nw w) H v d) (k : Kw w H H') : DtA (Nw w) H' v d := h.move fun a o f e => ⟨f, k a o f e⟩
theorem Dt.nw {w : Addr} {H H' : Hp} {v : V} {d : PyData} (h : Dt (New H) H' v d) (hw : H w ≠ none) : Dt (Nw w) H' v d := h.move fun a o f e => ⟨fun z => hw (by rw [← z]; exact f), e⟩
theorem Kw.free {w a : Addr} {H H' : Hp} (k : Kw w H H') (hw : H' w ≠ none) (h : H' a = none) : H a = none := by
  cases e : H a with
  | none => rfl
  | some o =>
    by_cases q : a = w
    · subst q
      exact absurd h hw
    · rw [k a o q e] at h
      cases h
inductive Kd | num | unit | var (x : Str) | lst (a : Kd) | pair (a b : Kd) | eith (a b : Kd) | fn (a b : Kd)
def Kd.d : Kd → PyData
  | num => .tuple [.str "num"]
  | unit => .tuple [.str "unit"]
  | var x => .tuple [.str "var", .str x]
  | lst a => .tuple [.str "list", a.d]
  | pair a b => .tuple [.str "pair", a.d, b.d]
  | eith a b => .tuple [.str "either", a.d, b.d]
  | fn a b => .tuple [.str "fun", a.d, b.d]
def Kd.dep : Kd → Nat
  | num => 1
  | unit => 1
  | var _ => 1
  | lst a => a.dep + 1
  | pair a b => max a.dep b.dep + 1
  | eith a b => max a.dep b.dep + 1
  | fn a b => max a.dep b.dep + 1
def Kd.closed : Kd → Bool
  | num => true
  | unit => true
  | var _ => false
  | lst a => a.closed
  | pair a b => a.closed && b.closed
  | eith a b => a.closed && b.closed
  | fn a b => a.closed && b.closed
def Kd.noFn : Kd → Bool
  | num => true
  | unit => true
  | var _ => true
  | lst a => a.noFn
  | pair a b => a.noFn && b.noFn
  | eith a b => a.noFn && b.noFn
  | fn _ _ => false
def Ck : Nat → Int
  | 0 => 2
  | n + 1 => 2 * Ck n + 2
theorem Ck_ge : ∀ n, 2 ≤ Ck n
  | 0 => Int.le_refl _
  | n + 1 => by
    have := Ck_ge n
    unfold Ck
    omega
def spKind (n : Nat) : Sp := fun vs H Q _ => ∃ (w : Addr) (wh c : Int), vs = [.ref w, .int n, .int wh] ∧ Wl H w c ∧ c + Ck n < 2 ^ 60 ∧
  ∀ (v : V) (k : Kd) (c' : Int) (H' : Hp), Dt (Nw w) H' v k.d → k.dep ≤ max n 1 → (2 ≤ wh → k.closed = true) → (wh = 1 ∨ wh = 2 → k.noFn = true) → Kw w H H' → Wl H' w c' → c' ≤ c + Ck n → Q v H'
theorem kind_draw {σ : L2.St} {H : Hp} {w : Addr} {n c : Int} {Q : VK} (h0 : σ[0]? = some (some (V.ref w))) (h1 : σ[1]? = some (some (V.int n))) (hw : Wl H w c) (hc : c < 2 ^ 60)
    (h : ∀ (b c1 : Int) (H1 : Hp), 0 ≤ b → (b < 4 ∨ (1 < n ∧ b < 12)) → Kw w H H1 → Wl H1 w c1 → c1 ≤ c + 1 → Q (.int b) H1) :
    tIf (tTest (tOp (rI0 fun i j => V.bl (decide (j < i))) (tVar 1) (tC (V.int 1)))) (tCall spDraw [] E0 (tCons (tVar 0) (tCons (tC (V.int 12)) tNil))) (tCall spDraw [] E0 (tCons (tVar 0) (tCons (tC (V.int 4)) tNil))) σ H Q := by
  refine ⟨_, h1, _, _, rfl, rfl, _, rfl, ite2 (fun g => ?_) (fun g => ?_)⟩
  · exact ⟨_, h0, w, 12, c, rfl, hw, hc, by decide, by decide, fun b c1 H1 b0 b1 k1 w1 e1 => h b c1 H1 b0 (.inr ⟨of_decide_eq_true g, b1⟩) k1 w1 e1⟩
  · exact ⟨_, h0, w, 4, c, rfl, hw, hc, by decide, by decide, fun b c1 H1 b0 b1 k1 w1 e1 => h b c1 H1 b0 (.inl b1) k1 w1 e1⟩
end KB
namespace KB
open PySem L2 PySem.Spec PyProof.Rows
def CPowB (i j : Int) : Prop := 0 ≤ j ∧ (Builtin.Int.intBits i : Int) * j ≤ 2 ^ 27
theorem op_powB {X : Cx} : OpR X (binaryOp .Pow) (rI CPowB fun i j => .int (i ^ j.toNat)) := opI fun _ _ _ _ _ _ _ hc q => pow_int hc.1 hc.2 q
theorem gd_int {i : Int} (h : i.natAbs < 10 ^ 12) (n : Nat) {L : Nat} (hL : 13 ≤ L) : Gd n L (.int i) := by
  refine ⟨?_, by simp only [PyData.depth]; omega, Nat.le_trans (PyData.shown_int_le h) hL⟩
  (simp only [PyData.showable, decide_eq_true_eq])
  have h1 : i.natAbs < 2 ^ 40 := Nat.lt_of_lt_of_le h (by decide)
  have := PySem.Flt.log2_lt_of (k := 40) (by decide) h1
  omega
def bg : Nat := 10 ^ 310
theorem bg_big {n : Nat} (h : n < 10 ^ 12) : n ≤ bg := Nat.le_of_lt (Nat.lt_trans h (by decide +kernel))
def spNum : Sp := fun vs H Q _ => ∃ (w : Addr) (c : Int), vs = [.ref w] ∧ Wl H w c ∧ c + 3 < 2 ^ 60 ∧
  ∀ (i c' : Int) (H' : Hp), Gd 0 305 (.int i) → i.natAbs ≤ bg → Kw w H H' → Wl H' w c' → c' ≤ c + 3 → Q (.int i) H'
end KB
namespace KB
open PySem L2 PySem.Spec PyProof.Rows
mutual
def sz : PyData → Nat
  | .tuple ds => szA ds + 3
  | .list ds => szA ds + 3
  | .none => PyData.none.shown.length
  | .bool b => (PyData.bool b).shown.length
  | .int i => (PyData.int i).shown.length
  | .str x => (PyData.str x).shown.length
  | .dict k => (PyData.dict k).shown.length
def szA : List PyData → Nat
  | [] => 0
  | d :: ds => sz d + 2 + szA ds
end
theorem szA_app : ∀ a b : List PyData, szA (a ++ b) = szA a + szA b
  | [], b => by rw [List.nil_append, szA, Nat.zero_add]
  | d :: a, b => by
    rw [List.cons_append, szA, szA, szA_app a b]
    omega
theorem szA_len : ∀ a : List PyData, 2 * a.length ≤ szA a
  | [] => Nat.zero_le _
  | d :: a => by
    have := szA_len a
    rw [List.length_cons, szA]
    omega
theorem szA_mem : ∀ {a : List PyData} {d : PyData}, d ∈ a → sz d + 2 ≤ szA a
  | d :: a, e, h => by
    rw [szA]
    rcases List.mem_cons.mp h with h | h
    · rw [h]
      omega
    · have := szA_mem h
      omega
mutual
theorem sz_shown : ∀ d : PyData, d.shown.length ≤ sz d
  | .tuple ds => by
    have h := szA_shown ds
    have q := tupleText_len_le (PyData.shownAll ds)
    rw [PyData.shownAll_length] at q
    simp only [PyData.shown, sz]
    omega
  | .list ds => by
    have h := szA_shown ds
    have q := listText_len_le (PyData.shownAll ds)
    rw [PyData.shownAll_length] at q
    simp only [PyData.shown, sz]
    omega
  | .none => by rw [sz]; exact Nat.le_refl _
  | .bool _ => by rw [sz]; exact Nat.le_refl _
  | .int _ => by rw [sz]; exact Nat.le_refl _
  | .str _ => by rw [sz]; exact Nat.le_refl _
  | .dict _ => by rw [sz]; exact Nat.le_refl _
theorem szA_shown : ∀ ds : List PyData, ((PyData.shownAll ds).map (·.length)).sum + 2 * ds.length ≤ szA ds
  | [] => by simp [PyData.shownAll, szA]
  | d :: ds => by
    have h1 := sz_shown d
    have h2 := szA_shown ds
    simp only [PyData.shownAll, List.map_cons, List.sum_cons, List.length_cons, szA]
    omega
end
structure Sd (n L : Nat) (d : PyData) : Prop where
  sh : d.showable = true
  dp : d.depth ≤ n
  ln : sz d ≤ L
theorem Sd.gd {n L : Nat} {d : PyData} (h : Sd n L d) : Gd n L d := ⟨h.sh, h.dp, Nat.le_trans (sz_shown d) h.ln⟩
theorem Sd.mono {n L m M : Nat} {d : PyData} (h : Sd n L d) (a : n ≤ m) (b : L ≤ M) : Sd m M d := ⟨h.sh, Nat.le_trans h.dp a, Nat.le_trans h.ln b⟩
def sdB (n L : Nat) (d : PyData) : Bool := d.showable && (decide (d.depth ≤ n) && decide (sz d ≤ L))
theorem sdB_ok {n L : Nat} {d : PyData} (h : sdB n L d = true) : Sd n L d := by
  obtain ⟨h1, h2⟩ := Bool.and_eq_true_iff.mp h
  obtain ⟨h3, h4⟩ := Bool.and_eq_true_iff.mp h2
  exact ⟨h1, of_decide_eq_true h3, of_decide_eq_true h4⟩
theorem Gd.sd {n L : Nat} {i : Int} (h : Gd n L (.int i)) : Sd n L (.int i) := ⟨h.sh, h.dp, by rw [sz]; exact h.ln⟩
structure SdA (n L : Nat) (ds : List PyData) : Prop where
  sh : PyData.showableAll ds = true
  dp : PyData.depthAll ds ≤ n
  ln : szA ds ≤ L
theorem SdA.mono {n L m M : Nat} {d : List PyData} (h : SdA n L d) (a : n ≤ m) (b : L ≤ M) : SdA m M d := ⟨h.sh, Nat.le_trans h.dp a, Nat.le_trans h.ln b⟩
theorem SdA.nil {n L : Nat} : SdA n L [] := ⟨by simp [PyData.showableAll], by simp [PyData.depthAll], by rw [szA]; exact Nat.zero_le _⟩
theorem SdA.cons {n L M : Nat} {d : PyData} {ds : List PyData} (h : Sd n L d) (r : SdA n M ds) : SdA n (L + 2 + M) (d :: ds) :=
  ⟨by simp only [PyData.showableAll, h.sh, r.sh, Bool.and_self], by simp only [PyData.depthAll]; exact Nat.max_le.mpr ⟨h.dp, r.dp⟩, by have := h.ln; have := r.ln; rw [szA]; omega⟩
theorem SdA.app {n L M : Nat} : ∀ {a b : List PyData}, SdA n L a → SdA n M b → SdA n (L + M) (a ++ b)
  | [], b, _, h => by
    rw [List.nil_append]
    exact h.mono (Nat.le_refl _) (Nat.le_add_left _ _)
  | d :: a, b, ha, hb => by
    have s1 : d.showable = true ∧ PyData.showableAll a = true := by simpa [PyData.showableAll] using ha.sh
    have d1 : d.depth ≤ n ∧ PyData.depthAll a ≤ n := by simpa [PyData.depthAll, Nat.max_le] using ha.dp
    have l1 : sz d + 2 + szA a ≤ L := by simpa [szA] using ha.ln
    have r : SdA n (szA a + M) (a ++ b) := SdA.app ⟨s1.2, d1.2, Nat.le_refl _⟩ hb
    exact (SdA.cons (L := sz d) ⟨s1.1, d1.1, Nat.le_refl _⟩ r).mono (Nat.le_refl _) (by omega)
theorem SdA.all {n L : Nat} : ∀ {a : List PyData}, SdA n L a → ∀ d ∈ a, Sd n L d
  | d :: a, h, e, m => by
    have s1 : d.showable = true ∧ PyData.showableAll a = true := by simpa [PyData.showableAll] using h.sh
    have d1 : d.depth ≤ n ∧ PyData.depthAll a ≤ n := by simpa [PyData.depthAll, Nat.max_le] using h.dp
    have l1 : sz d + 2 + szA a ≤ L := by simpa [szA] using h.ln
    rcases List.mem_cons.mp m with z | z
    · rw [z]
      exact ⟨s1.1, d1.1, by omega⟩
    · exact SdA.all (L := L) ⟨s1.2, d1.2, by omega⟩ e z
theorem SdA.sub {n L : Nat} {a b : List PyData} (h : SdA n L a) (s : b.Sublist a) : SdA n L b := by
  induction s generalizing L with
  | slnil => exact h
  | @cons l1 l2 x s ih =>
    have s1 : x.showable = true ∧ PyData.showableAll l2 = true := by simpa [PyData.showableAll] using h.sh
    have d1 : x.depth ≤ n ∧ PyData.depthAll l2 ≤ n := by simpa [PyData.depthAll, Nat.max_le] using h.dp
    have l1 : sz x + 2 + szA l2 ≤ L := by simpa [szA] using h.ln
    exact ih ⟨s1.2, d1.2, by omega⟩
  | @cons_cons l1 l2 x s ih =>
    have s1 : x.showable = true ∧ PyData.showableAll l2 = true := by simpa [PyData.showableAll] using h.sh
    have d1 : x.depth ≤ n ∧ PyData.depthAll l2 ≤ n := by simpa [PyData.depthAll, Nat.max_le] using h.dp
    have l1 : sz x + 2 + szA l2 ≤ L := by simpa [szA] using h.ln
    exact (SdA.cons (L := sz x) ⟨s1.1, d1.1, Nat.le_refl _⟩ (ih (L := szA l2) ⟨s1.2, d1.2, Nat.le_refl _⟩)).mono (Nat.le_refl _) (by omega)
theorem SdA.tup {n L : Nat} {a : List PyData} (h : SdA n L a) : Sd (n + 1) (L + 3) (.tuple a) := ⟨by simp only [PyData.showable, h.sh], by have := h.dp; simp only [PyData.depth]; omega, by have := h.ln; rw [sz]; omega⟩
theorem SdA.lst {n L : Nat} {a : List PyData} (h : SdA n L a) : Sd (n + 1) (L + 3) (.list a) := ⟨by simp only [PyData.showable, h.sh], by have := h.dp; simp only [PyData.depth]; omega, by have := h.ln; rw [sz]; omega⟩
theorem Sd.parts {n L : Nat} {a : List PyData} (h : Sd n L (.tuple a)) : SdA n L a := ⟨by have := h.sh; simpa only [PyData.showable] using this, by have := h.dp; simp only [PyData.depth] at this; omega, by have := h.ln; rw [sz] at this; omega⟩
theorem Sd.parts1 {n L : Nat} {a : List PyData} (h : Sd (n + 1) L (.tuple a)) : SdA n L a := ⟨by have := h.sh; simpa only [PyData.showable] using this, by have := h.dp; simp only [PyData.depth] at this; omega, by have := h.ln; rw [sz] at this; omega⟩
theorem sdA_of {n L : Nat} : ∀ {ds : List PyData}, (∀ d ∈ ds, Sd n L d) → SdA n ((L + 2) * ds.length) ds
  | [], _ => SdA.nil
  | d :: ds, h => (SdA.cons (h d List.mem_cons_self) (sdA_of fun x hx => h x (List.mem_cons_of_mem _ hx))).mono (Nat.le_refl _) (by rw [List.length_cons, Nat.mul_add]; omega)
theorem sd_tup {n L m : Nat} {ds : List PyData} (h : ∀ d ∈ ds, Sd n L d) (hm : ds.length ≤ m) : Sd (n + 1) ((L + 2) * m + 3) (.tuple ds) :=
  (sdA_of h).tup.mono (Nat.le_refl _) (Nat.add_le_add_right (Nat.mul_le_mul_left _ hm) 3)
theorem Sd.len {n L : Nat} {a : List PyData} (h : Sd n L (.tuple a)) : 2 * a.length ≤ L := by
  have := szA_len a
  have := h.parts.ln
  omega
end KB
namespace KB
open PySem L2 PySem.Spec PyProof.Rows
theorem ifT {c : Bool} {A B : Prop} (hc : c = true) (h : A) : if c = true then A else B := by
  rw [if_pos hc]
  exact h
theorem ifF {c : Bool} {A B : Prop} (hc : c = false) (h : B) : if c = true then A else B := by
  (rw [hc, if_neg Bool.false_ne_true])
  exact h
def isV : Kd → PyData → Bool
  | .num, .int _ => true
  | .unit, .tuple [] => true
  | .lst a, .tuple xs => xs.all fun x => isV a x
  | .pair a b, .tuple [.str p, x, y] => decide (p = "pair") && (isV a x && isV b y)
  | .eith a b, .tuple [.str p, x] => if p = "left" then isV a x else decide (p = "right") && isV b x
  | _, _ => false
inductive VV (N : Nat) : Kd → PyData → Prop
  | num (i : Int) (h : i.natAbs ≤ bg + 10 * N) : VV N .num (.int i)
  | unit : VV N .unit (.tuple [])
  | lst {a : Kd} {xs : List PyData} (hl : xs.length ≤ N) (h : ∀ x ∈ xs, VV N a x) : VV N (.lst a) (.tuple xs)
  | pair {a b : Kd} {x y : PyData} (hx : VV N a x) (hy : VV N b y) : VV N (.pair a b) (.tuple [.str "pair", x, y])
  | left {a b : Kd} {x : PyData} (hx : VV N a x) : VV N (.eith a b) (.tuple [.str "left", x])
  | right {a b : Kd} {x : PyData} (hx : VV N b x) : VV N (.eith a b) (.tuple [.str "right", x])
theorem Dt.tupI {F : Addr → Prop} {H : Hp} {v : V} {ds : List PyData} (h : Dt F H v (.tuple ds)) : ∃ a xs, v = .ref a ∧ F a ∧ H a = some (.tup xs) ∧ DtA F H xs ds := by
  cases h with
  | tup f h r => exact ⟨_, _, rfl, f, h, r⟩
theorem Dt.strI {F : Addr → Prop} {H : Hp} {v : V} {x : Str} (h : Dt F H v (.str x)) : v = .str x := by
  cases h
  rfl
theorem Dt.intI {F : Addr → Prop} {H : Hp} {v : V} {x : Int} (h : Dt F H v (.int x)) : v = .int x := by
  cases h
  rfl
theorem DtA.one {F : Addr → Prop} {H : Hp} {xs : List V} {d : PyData} (h : DtA F H xs [d]) : ∃ x, xs = [x] ∧ Dt F H x d := by
  cases h with
  | cons a r =>
    cases r
    exact ⟨_, rfl, a⟩
theorem DtA.two {F : Addr → Prop} {H : Hp} {xs : List V} {d e : PyData} (h : DtA F H xs [d, e]) : ∃ x y, xs = [x, y] ∧ Dt F H x d ∧ Dt F H y e := by
  cases h with
  | cons a r =>
    obtain ⟨y, rfl, b⟩ := r.one
    exact ⟨_, _, rfl, a, b⟩
theorem DtA.three {F : Addr → Prop} {H : Hp} {xs : List V} {d e f : PyData} (h : DtA F H xs [d, e, f]) : ∃ x y z, xs = [x, y, z] ∧ Dt F H x d ∧ Dt F H y e ∧ Dt F H z f := by
  cases h with
  | cons a r =>
    obtain ⟨y, z, rfl, b, c⟩ := r.two
    exact ⟨_, _, _, rfl, a, b, c⟩
def KdAt (F : Addr → Prop) (H : Hp) (a : Addr) : Kd → Prop
  | .num => H a = some (.tup [.str "num"])
  | .unit => H a = some (.tup [.str "unit"])
  | .var x => H a = some (.tup [.str "var", .str x])
  | .lst k => ∃ x, H a = some (.tup [.str "list", x]) ∧ Dt F H x k.d
  | .pair k l => ∃ x y, H a = some (.tup [.str "pair", x, y]) ∧ Dt F H x k.d ∧ Dt F H y l.d
  | .eith k l => ∃ x y, H a = some (.tup [.str "either", x, y]) ∧ Dt F H x k.d ∧ Dt F H y l.d
  | .fn k l => ∃ x y, H a = some (.tup [.str "fun", x, y]) ∧ Dt F H x k.d ∧ Dt F H y l.d
theorem kd_at {F : Addr → Prop} {H : Hp} {v : V} : ∀ {k : Kd}, Dt F H v k.d → ∃ a, v = .ref a ∧ F a ∧ KdAt F H a k
  | .num, h => by
    obtain ⟨a, xs, rfl, f, h, r⟩ := h.tupI
    obtain ⟨x, rfl, hx⟩ := r.one
    rw [hx.strI] at h
    exact ⟨a, rfl, f, h⟩
  | .unit, h => by
    obtain ⟨a, xs, rfl, f, h, r⟩ := h.tupI
    obtain ⟨x, rfl, hx⟩ := r.one
    rw [hx.strI] at h
    exact ⟨a, rfl, f, h⟩
  | .var y, h => by
    obtain ⟨a, xs, rfl, f, h, r⟩ := h.tupI
    obtain ⟨x, z, rfl, hx, hz⟩ := r.two
    rw [hx.strI, hz.strI] at h
    exact ⟨a, rfl, f, h⟩
  | .lst k, h => by
    obtain ⟨a, xs, rfl, f, h, r⟩ := h.tupI
    obtain ⟨x, z, rfl, hx, hz⟩ := r.two
    rw [hx.strI] at h
    exact ⟨a, rfl, f, z, h, hz⟩
  | .pair k l, h => by
    obtain ⟨a, xs, rfl, f, h, r⟩ := h.tupI
    obtain ⟨x, y, z, rfl, hx, hy, hz⟩ := r.three
    rw [hx.strI] at h
    exact ⟨a, rfl, f, y, z, h, hy, hz⟩
  | .eith k l, h => by
    obtain ⟨a, xs, rfl, f, h, r⟩ := h.tupI
    obtain ⟨x, y, z, rfl, hx, hy, hz⟩ := r.three
    rw [hx.strI] at h
    exact ⟨a, rfl, f, y, z, h, hy, hz⟩
  | .fn k l, h => by
    obtain ⟨a, xs, rfl, f, h, r⟩ := h.tupI
    obtain ⟨x, y, z, rfl, hx, hy, hz⟩ := r.three
    rw [hx.strI] at h
    exact ⟨a, rfl, f, y, z, h, hy, hz⟩
theorem VV.mono {M N : Nat} (h : M ≤ N) : ∀ {k : Kd} {d : PyData}, VV M k d → VV N k d
  | _, _, .num i hi => .num i (by omega)
  | _, _, .unit => .unit
  | _, _, .lst hl r => .lst (Nat.le_trans hl h) fun x hx => (r x hx).mono h
  | _, _, .pair a b => .pair (a.mono h) (b.mono h)
  | _, _, .left a => .left (a.mono h)
  | _, _, .right a => .right (a.mono h)
theorem VV.isV {N : Nat} : ∀ {k : Kd} {d : PyData}, VV N k d → KB.isV k d = true
  | _, _, .num i _ => by simp only [KB.isV]
  | _, _, .unit => by simp only [KB.isV]
  | _, _, .lst hl r => by
    simp only [KB.isV]
    exact List.all_eq_true.mpr fun x hx => (r x hx).isV
  | _, _, .pair a b => by simp only [KB.isV, a.isV, b.isV, decide_true, Bool.and_self]
  | _, _, .left a => by simp only [KB.isV, a.isV, if_true]
  | _, _, .right a => by
    simp only [KB.isV, a.isV, decide_true, Bool.and_self]
    rfl
def VC : Nat → Int
  | 0 => 3
  | n + 1 => 5 * VC n + 5
def VL : Nat → Nat
  | 0 => 305
  | n + 1 => (VL n + 2) * 4 + 3
theorem VC_ge : ∀ n, 3 ≤ VC n
  | 0 => Int.le_refl _
  | n + 1 => by
    have := VC_ge n
    unfold VC
    omega
theorem VL_ge : ∀ n, 305 ≤ VL n
  | 0 => Nat.le_refl _
  | n + 1 => by
    have := VL_ge n
    unfold VL
    omega
def spVal (n : Nat) : Sp := fun vs H Q _ => ∃ (w : Addr) (kv : V) (k : Kd) (c : Int), vs = [.ref w, kv] ∧ Dt (Nw w) H kv k.d ∧ k.dep ≤ n ∧ k.closed = true ∧ k.noFn = true ∧ Wl H w c ∧ c + VC n < 2 ^ 60 ∧
  ∀ (v : V) (d : PyData) (c' : Int) (H' : Hp), Dt (New H) H' v d → VV 4 k d → Sd n (VL n) d → Kw w H H' → Wl H' w c' → c' ≤ c + VC n → Q v H'
end KB
namespace KB
open PySem L2 PySem.Spec PyProof.Rows
section
variable {F : Addr → Prop} {H H' : Hp} {K : PySem.W.Frag}
theorem Dt.keep {v : V} {d : PyData} (h : Dt F H v d) (k : Same H H') : Dt F H' v d := h.move fun a o f e => ⟨f, k a o e⟩
theorem DtA.keep {v : List V} {d : List PyData} (h : DtA F H v d) (k : Same H H') : DtA F H' v d := h.move fun a o f e => ⟨f, k a o e⟩
theorem DtA.take : ∀ {vs : List V} {ds : List PyData} (n : Nat), DtA F H vs ds → DtA F H (vs.take n) (ds.take n)
  | _, _, 0, _ => by
    rw [List.take_zero, List.take_zero]
    exact .nil
  | _, _, n + 1, .nil => .nil
  | _, _, n + 1, .cons h r => .cons h (r.take n)
theorem DtA.drop : ∀ {vs : List V} {ds : List PyData} (n : Nat), DtA F H vs ds → DtA F H (vs.drop n) (ds.drop n)
  | _, _, 0, h => h
  | _, _, n + 1, .nil => .nil
  | _, _, n + 1, .cons h r => r.drop n
theorem DtA.at_ : ∀ {vs : List V} {ds : List PyData} {i : Nat} {d : PyData}, DtA F H vs ds → ds[i]? = some d → ∃ v, vs[i]? = some v ∧ Dt F H v d
  | _, _, 0, _, .cons h _, e => ⟨_, rfl, by cases e; exact h⟩
  | _, _, i + 1, _, .cons _ r, e => r.at_ (i := i) e
theorem ixD {v : V} {ds : List PyData} {i : Nat} {d : PyData} {Q : VK} (h : Dt F H v (.tuple ds)) (e : ds[i]? = some d) (q : ∀ x, Dt F H x d → Q x H) : rIxT K v (.int (i : Int)) H Q := by
  obtain ⟨a, xs, rfl, f, ha, r⟩ := h.tupI
  obtain ⟨x, hx, dx⟩ := r.at_ e
  exact ⟨a, xs, _, x, rfl, rfl, SqT.of ha, atI_nat hx, q x dx⟩
theorem ixD0 {v : V} {ds : List PyData} {d : PyData} {Q : VK} (h : Dt F H v (.tuple (d :: ds))) (q : ∀ x, Dt F H x d → Q x H) : rIxT K v (.int 0) H Q := ixD (i := 0) h rfl q
theorem catD {x y : V} {ds es : List PyData} {Q : VK} (hF : ∀ p, H p = none → F p) (hx : Dt F H x (.tuple ds)) (hy : Dt F H y (.tuple es)) (hz : ds.length + es.length ≤ 16000000) (q : ∀ v H', Same H H' → Dt F H' v (.tuple (ds ++ es)) → Q v H') : rCatA K x y H Q := by
  obtain ⟨a, xs, rfl, f, ha, r⟩ := hx.tupI
  obtain ⟨b, ys, rfl, f2, hb, r2⟩ := hy.tupI
  have l1 := r.length
  have l2 := r2.length
  refine ⟨a, b, xs, ys, rfl, rfl, SqT.of ha, SqT.of hb, Nat.le_trans (by omega : xs.length + ys.length ≤ 16000000) (by decide), fun e => ?_, fun _ e => ?_, fun _ _ p np => ?_⟩
  · subst e
    cases r
    exact q _ H (Same.refl H) (.tup f2 hb r2)
  · subst e
    cases r2
    rw [List.append_nil] at q
    exact q _ H (Same.refl H) (.tup f ha r)
  · exact q _ _ (Same.new np) (.tup (hF p np) upd_same ((r.append r2).keep (Same.new np)))
theorem takeD {x : V} {ds : List PyData} {i : Nat} {Q : VK} (hF : ∀ p, H p = none → F p) (hx : Dt F H x (.tuple ds)) (hi : i ≤ ds.length) (q : ∀ v H', Same H H' → Dt F H' v (.tuple (ds.take i)) → Q v H') : rSlA K x none (some (i : Int)) H Q := by
  obtain ⟨a, xs, rfl, f, ha, r⟩ := hx.tupI
  have l := r.length
  refine ⟨a, xs, rfl, SqT.of ha, fun e => ?_, fun _ p np => ?_⟩
  · rw [HT.sIx_nat] at e
    have : ds.take i = ds := List.take_of_length_le (by omega)
    rw [this] at q
    exact q _ H (Same.refl H) hx
  · refine q _ _ (Same.new np) (.tup (hF p np) upd_same ?_)
    have : cutV xs none (some (i : Int)) = xs.take i := by
      unfold cutV
      rw [HT.sIx_nat, HT.sIx_none, List.drop_zero, Nat.sub_zero, Nat.min_eq_left (by omega)]
    rw [this]
    exact (r.take i).keep (Same.new np)
theorem dropD {x : V} {ds : List PyData} {i : Nat} {Q : VK} (hF : ∀ p, H p = none → F p) (hx : Dt F H x (.tuple ds)) (q : ∀ v H', Same H H' → Dt F H' v (.tuple (ds.drop i)) → Q v H') : rSlA K x (some (i : Int)) none H Q := by
  obtain ⟨a, xs, rfl, f, ha, r⟩ := hx.tupI
  have l := r.length
  refine ⟨a, xs, rfl, SqT.of ha, fun e => ?_, fun _ p np => ?_⟩
  · rw [HT.sIx_nat] at e
    by_cases hi : i = 0
    · subst hi
      exact q _ H (Same.refl H) hx
    · have z : xs = [] := List.eq_nil_of_length_eq_zero (by omega)
      subst z
      cases r
      rw [show ([] : List PyData).drop i = [] from List.drop_nil] at q
      exact q _ H (Same.refl H) hx
  · refine q _ _ (Same.new np) (.tup (hF p np) upd_same ?_)
    have : cutV xs (some (i : Int)) none = xs.drop i := by
      unfold cutV
      rw [HT.sIx_nat, HT.sIx_none]
      by_cases hi : i ≤ xs.length
      · rw [Nat.min_eq_left hi]
        exact List.take_of_length_le (by rw [List.length_drop]; exact Nat.le_refl _)
      · rw [Nat.min_eq_right (by omega), List.drop_of_length_le (Nat.le_refl _), List.drop_of_length_le (by omega), List.take_nil]
    rw [this]
    exact (r.drop i).keep (Same.new np)
theorem layD {p : Addr} {vs : List V} {ds : List PyData} (hF : ∀ p, H p = none → F p) (np : H p = none) (r : DtA F H vs ds) : Dt F (upd H p (.tup vs)) (.ref p) (.tuple ds) := .tup (hF p np) upd_same (r.keep (Same.new np))
theorem lenD {v : V} {ds : List PyData} (h : Dt F H v (.tuple ds)) : ∃ a xs, v = .ref a ∧ SqT K H a xs ∧ xs.length = ds.length := by
  obtain ⟨a, xs, rfl, f, ha, r⟩ := h.tupI
  exact ⟨a, xs, rfl, SqT.of ha, r.length⟩
end
theorem nwF {w : Addr} {H : Hp} {c : Int} (hw : Wl H w c) : ∀ p, H p = none → Nw w p := fun p np z => hw.some (by rw [← z]; exact np)
end KB
namespace KB
open PySem L2 PySem.Spec PyProof.Rows
section
variable {K : PySem.W.Frag} {w : Addr} {σ : L2.St} {H : Hp} {c C : Int} {tc : TE} {ds : List PyData} {i u j : Nat} {vv : V} {P : PyData → Prop} {Q : VK}
theorem slL (hw : Wl H w c) (su : σ[u]? = some (some vv)) (sj : σ[j]? = some (some (V.int (i : Int)))) (hv : Dt (Nw w) H vv (.tuple ds)) (hi : i ≤ ds.length) {Q : VK} (q : ∀ v H', Same H H' → Dt (Nw w) H' v (.tuple (ds.take i)) → Q v H') :
    tSl (rSlA K) (tVar u) tNoPart (tPart (tVar j)) σ H Q := ⟨_, su, _, sj, _, rfl, takeD (nwF hw) hv hi q⟩
theorem slR (hw : Wl H w c) (su : σ[u]? = some (some vv)) (sj : σ[j]? = some (some (V.int (i : Int)))) (hv : Dt (Nw w) H vv (.tuple ds)) {Q : VK} (q : ∀ v H', Same H H' → Dt (Nw w) H' v (.tuple (ds.drop i)) → Q v H') :
    tSl (rSlA K) (tVar u) (tPart (tVar j)) tNoPart σ H Q := ⟨_, su, _, sj, _, rfl, dropD (nwF hw) hv q⟩
theorem slR1 (hw : Wl H w c) (su : σ[u]? = some (some vv)) (sj : σ[j]? = some (some (V.int (i : Int)))) (hv : Dt (Nw w) H vv (.tuple ds)) {Q : VK} (q : ∀ v H', Same H H' → Dt (Nw w) H' v (.tuple (ds.drop (i + 1))) → Q v H') :
    tSl (rSlA K) (tVar u) (tPart (tOp (rI0 fun i j => V.int (i + j)) (tVar j) (tC (V.int 1)))) tNoPart σ H Q := ⟨_, su, _, sj, _, _, rfl, rfl, _, rfl, dropD (i := i + 1) (nwF hw) hv q⟩
def Mid (w : Addr) (σ : L2.St) (H : Hp) (tc : TE) (P : PyData → Prop) (C : Int) : Prop := ∀ H1 : Hp, Same H H1 → ∀ Q' : VK, (∀ x e c' H2, Dt (Nw w) H2 x e → P e → Kw w H1 H2 → Wl H2 w c' → c' ≤ C → Q' x H2) → tc σ H1 Q'
theorem cat3 {tr : TE} {r : List PyData} (hw : Wl H w c) (su : σ[u]? = some (some vv)) (sj : σ[j]? = some (some (V.int (i : Int)))) (hv : Dt (Nw w) H vv (.tuple ds)) (hi : i ≤ ds.length) (hz : ds.length ≤ 4000000) (hr : r.length ≤ ds.length) (hc : Mid w σ H tc P C)
    (ht : ∀ (H1 : Hp) (c1 : Int), Wl H1 w c1 → Dt (Nw w) H1 vv (.tuple ds) → ∀ Q' : VK, (∀ v H2, Same H1 H2 → Dt (Nw w) H2 v (.tuple r) → Q' v H2) → tr σ H1 Q')
    (q : ∀ v e c' H', P e → Dt (Nw w) H' v (.tuple (ds.take i ++ [e] ++ r)) → Kw w H H' → Wl H' w c' → c' ≤ C → Q v H') :
    tOp (rCatA K) (tOp (rCatA K) (tSl (rSlA K) (tVar u) tNoPart (tPart (tVar j))) (tTup (tCons tc tNil))) tr σ H Q := by
  have l1 : (ds.take i).length ≤ ds.length := by rw [List.length_take]; omega
  refine slL hw su sj hv hi fun v1 H1 s1 e1 => ?_
  refine hc H1 s1 _ fun x e c' H2 dx pe k2 w2 hc' => ⟨Nat.le_of_lt (small1000 (by show (1 : Nat) ≤ 1000; decide)), fun p np => ?_⟩
  have s3 := @Same.new p _ (.tup [x]) np
  have dp : Dt (Nw w) _ (.ref p) (.tuple [e]) := layD (nwF w2) np (.cons dx .nil)
  have w3 := w2.same s3
  refine catD (nwF w3) ((e1.kw k2).keep s3) dp (by show _ + 1 ≤ _; omega) fun v4 H4 s4 e4 => ?_
  have w4 := w3.same s4
  refine ht H4 c' w4 ((((hv.keep s1).kw k2).keep s3).keep s4) _ fun v5 H5 s5 e5 => ?_
  have w5 := w4.same s5
  refine catD (nwF w5) (e4.keep s5) e5 (by rw [List.length_append]; show _ + 1 + _ ≤ _; omega) fun v6 H6 s6 e6 => ?_
  exact q v6 e c' H6 pe e6 ((Kw.same s1).trans (k2.trans (Kw.same (s3.trans (s4.trans (s5.trans s6)))))) (w5.same s6) hc'
theorem rep_at (hw : Wl H w c) (su : σ[u]? = some (some vv)) (sj : σ[j]? = some (some (V.int (i : Int)))) (hv : Dt (Nw w) H vv (.tuple ds)) (hi : i ≤ ds.length) (hz : ds.length ≤ 4000000) (hc : Mid w σ H tc P C)
    (q : ∀ v e c' H', P e → Dt (Nw w) H' v (.tuple (ds.take i ++ [e] ++ ds.drop (i + 1))) → Kw w H H' → Wl H' w c' → c' ≤ C → Q v H') :
    tOp (rCatA K) (tOp (rCatA K) (tSl (rSlA K) (tVar u) tNoPart (tPart (tVar j))) (tTup (tCons tc tNil))) (tSl (rSlA K) (tVar u) (tPart (tOp (rI0 fun i j => V.int (i + j)) (tVar j) (tC (V.int 1)))) tNoPart) σ H Q :=
  cat3 hw su sj hv hi hz (by rw [List.length_drop]; omega) hc (fun H1 c1 w1 e1 Q' q' => slR1 w1 su sj e1 q') q
theorem ins_at (hw : Wl H w c) (su : σ[u]? = some (some vv)) (sj : σ[j]? = some (some (V.int (i : Int)))) (hv : Dt (Nw w) H vv (.tuple ds)) (hi : i ≤ ds.length) (hz : ds.length ≤ 4000000) (hc : Mid w σ H tc P C)
    (q : ∀ v e c' H', P e → Dt (Nw w) H' v (.tuple (ds.take i ++ [e] ++ ds.drop i)) → Kw w H H' → Wl H' w c' → c' ≤ C → Q v H') :
    tOp (rCatA K) (tOp (rCatA K) (tSl (rSlA K) (tVar u) tNoPart (tPart (tVar j))) (tTup (tCons tc tNil))) (tSl (rSlA K) (tVar u) (tPart (tVar j)) tNoPart) σ H Q :=
  cat3 hw su sj hv hi hz (by rw [List.length_drop]; omega) hc (fun H1 c1 w1 e1 Q' q' => slR w1 su sj e1 q') q
theorem del_at (hw : Wl H w c) (su : σ[u]? = some (some vv)) (sj : σ[j]? = some (some (V.int (i : Int)))) (hv : Dt (Nw w) H vv (.tuple ds)) (hi : i ≤ ds.length) (hz : ds.length ≤ 4000000)
    (q : ∀ v H', Dt (Nw w) H' v (.tuple (ds.take i ++ ds.drop (i + 1))) → Same H H' → Q v H') :
    tOp (rCatA K) (tSl (rSlA K) (tVar u) tNoPart (tPart (tVar j))) (tSl (rSlA K) (tVar u) (tPart (tOp (rI0 fun i j => V.int (i + j)) (tVar j) (tC (V.int 1)))) tNoPart) σ H Q := by
  have l1 : (ds.take i).length ≤ ds.length := by rw [List.length_take]; omega
  have l2 : (ds.drop (i + 1)).length ≤ ds.length := by rw [List.length_drop]; omega
  refine slL hw su sj hv hi fun v1 H1 s1 e1 => ?_
  have w1 := hw.same s1
  refine slR1 w1 su sj (hv.keep s1) fun v2 H2 s2 e2 => ?_
  have w2 := w1.same s2
  exact catD (nwF w2) (e1.keep s2) e2 (by omega) fun v3 H3 s3 e3 => q v3 H3 e3 (s1.trans (s2.trans s3))
end
end KB
namespace KB
open PySem L2 PySem.Spec PyProof.Rows
def isInt : PyData → Bool
  | .int _ => true
  | .bool _ => true
  | _ => false
def isBool : PyData → Bool
  | .bool _ => true
  | _ => false
def isTup : PyData → Bool
  | .tuple _ => true
  | _ => false
def isStr : PyData → Bool
  | .str _ => true
  | _ => false
section
variable {F : Addr → Prop} {H : Hp} {K : PySem.W.Frag} {v : V} {d : PyData} {Q : VK}
theorem tyD (h : Dt F H v d) : ∃ t, TyX K H v t ∧ PySem.W.kitOne K t (.type "int") = some (isInt d) ∧ PySem.W.kitOne K t (.type "bool") = some (isBool d) ∧ PySem.W.kitOne K t (.type "tuple") = some (isTup d) ∧ PySem.W.kitOne K t (.type "str") = some (isStr d) := by
  cases h with
  | non => exact ⟨_, .base .non, rfl, rfl, rfl, rfl⟩
  | bl b => exact ⟨_, .base (.bl b), rfl, rfl, rfl, rfl⟩
  | int i => exact ⟨_, .base (.int i), rfl, rfl, rfl, rfl⟩
  | str x => exact ⟨_, .base (.str x), rfl, rfl, rfl, rfl⟩
  | lst f h r => exact ⟨_, .base (.lst h), rfl, rfl, rfl, rfl⟩
  | tup f h r => exact ⟨_, .base (.tup h), rfl, rfl, rfl, rfl⟩
  | emp f h => exact ⟨_, .base (.dK h), rfl, rfl, rfl, rfl⟩
end
def rEqE (K : PySem.W.Frag) : R2 := fun x y H Q => ∃ (a e : Addr) (xs : List V), x = .ref a ∧ y = .ref e ∧ SqT K H a xs ∧ SqT K H e [] ∧ Q (.bl (decide (xs.length = 0))) H
theorem op_eqE {X : Cx} (hu : X.A.units < cLine) : OpR X (compareOp .Eq) (rEqE X.K) := by
  (intro pins s σ H x y v u Q I rx ry h)
  obtain ⟨a, e, xs, rfl, rfl, ha, he, q⟩ := h
  (cases (show v = Value.ref a from rx))
  cases (show u = Value.ref e from ry)
  (obtain ⟨its, r1, p1, _⟩ := I.tuple ha)
  obtain ⟨its2, r2, p2, _⟩ := I.tuple he
  cases r2
  have l1 := r1.length
  refine SeqAt.eq_tupleAt (e := fun _ => true) p1 p2 hu (fun j _ h2 => absurd h2 (Nat.not_lt_zero j)) ⟨.bl (decide (xs.length = 0)), H, I, ?_, q⟩
  have : ((List.range (min its.toArray.size ([] : List Value).toArray.size)).all (fun _ => true) && its.toArray.size == ([] : List Value).toArray.size) = decide (xs.length = 0) := by
    rw [l1]
    show ((List.range (min its.length 0)).all (fun _ => true) && its.length == 0) = decide (its.length = 0)
    rw [Nat.min_zero]
    show (true && its.length == 0) = _
    rw [Bool.true_and]
    rfl
  rw [this]
  rfl
end KB
namespace KB
open PySem L2 PySem.Spec PyProof.Rows
def NC : Nat → Int
  | 0 => 3
  | n + 1 => NC n + VC n + 3
theorem NC_ge : ∀ n, 3 ≤ NC n
  | 0 => Int.le_refl _
  | n + 1 => by
    have := NC_ge n
    have := VC_ge n
    unfold NC
    omega
def spNear (n : Nat) : Sp := fun vs H Q _ => ∃ (w : Addr) (kv vv : V) (k : Kd) (d : PyData) (N : Nat) (c : Int), vs = [.ref w, kv, vv] ∧ Dt (Nw w) H kv k.d ∧ Dt (Nw w) H vv d ∧ VV N k d ∧ N ≤ 1000 ∧ 4 ≤ N ∧ k.dep ≤ n ∧ k.closed = true ∧ k.noFn = true ∧ Wl H w c ∧ c + NC n < 2 ^ 60 ∧
  ∀ (v : V) (e : PyData) (c' : Int) (H' : Hp), Dt (Nw w) H' v e → VV (N + 1) k e → Kw w H H' → Wl H' w c' → c' ≤ c + NC n → Q v H'
end KB
namespace KB
open PySem L2 PySem.Spec PyProof.Rows
theorem ixT {X : Cx} {K : PySem.W.Frag} (h : X.K = K) : IxR X (rIxT K) := by
  rw [← h]
  exact ix_tup
theorem isV_unit (d : PyData) (ds : List PyData) : isV .unit (.tuple (d :: ds)) = false := by
  cases ds <;> rfl
theorem isV_notup {k : Kd} {d : PyData} (hk : k ≠ .num) (hd : isTup d = false) : isV k d = false := by
  cases k <;> cases d <;> first | rfl | exact absurd rfl hk | cases hd
theorem isV_lst (a : Kd) (ds : List PyData) : isV (.lst a) (.tuple ds) = ds.all fun x => isV a x := by
  simp only [isV]
theorem isV_pair0 (a b : Kd) : isV (.pair a b) (.tuple []) = false := rfl
theorem isV_eith0 (a b : Kd) : isV (.eith a b) (.tuple []) = false := rfl
theorem isV_pairS {a b : Kd} {d : PyData} {ds : List PyData} (h : isStr d = false) : isV (.pair a b) (.tuple (d :: ds)) = false := by
  cases d <;> first | (cases h; done) | (rcases ds with _ | ⟨x, _ | ⟨y, _ | ⟨z, r⟩⟩⟩ <;> rfl)
theorem isV_eithS {a b : Kd} {d : PyData} {ds : List PyData} (h : isStr d = false) : isV (.eith a b) (.tuple (d :: ds)) = false := by
  cases d <;> first | (cases h; done) | (rcases ds with _ | ⟨x, _ | ⟨y, r⟩⟩ <;> rfl)
theorem isV_pairL {a b : Kd} {ds : List PyData} (h : ds.length ≠ 3) : isV (.pair a b) (.tuple ds) = false := by
  rcases ds with _ | ⟨d, _ | ⟨x, _ | ⟨y, _ | ⟨z, r⟩⟩⟩⟩
  · rfl
  · cases d <;> rfl
  · cases d <;> rfl
  · exact absurd rfl h
  · cases d <;> rfl
theorem isV_eithL {a b : Kd} {ds : List PyData} (h : ds.length ≠ 2) : isV (.eith a b) (.tuple ds) = false := by
  rcases ds with _ | ⟨d, _ | ⟨x, _ | ⟨y, r⟩⟩⟩
  · rfl
  · cases d <;> rfl
  · exact absurd rfl h
  · cases d <;> rfl
theorem notIn_all (ds : List PyData) (p : PyData → Bool) : (!inV (V.bl false) (ds.map fun z => V.bl (p z))) = ds.all p := by
  induction ds with
  | nil => rfl
  | cons d ds ih =>
    have e : inV (V.bl false) ((d :: ds).map fun z => V.bl (p z)) = (eqV (V.bl (p d)) (V.bl false) || inV (V.bl false) (ds.map fun z => V.bl (p z))) := rfl
    rw [e, Bool.not_or, ih, List.all_cons]
    cases p d <;> rfl
def spIsV (n : Nat) : Sp := fun vs H Q _ => ∃ (F : Addr → Prop) (kv tv : V) (k : Kd) (d : PyData) (m : Nat), vs = [kv, tv] ∧ Dt F H kv k.d ∧ Dt F H tv d ∧ k.dep ≤ n ∧ k.closed = true ∧ k.noFn = true ∧ Sd m 10000000 d ∧ ∀ H' : Hp, Same H H' → Q (.bl (isV k d)) H'
end KB
namespace KB
open PySem L2 PySem.Spec PyProof.Rows
theorem for_zipM {K : PySem.W.Frag} {a b : Addr} {xs ys : List V} {g : TG} {tb : TS} {D : Ends} {σ : L2.St} {H : Hp} (Pv : Nat → L2.St → Hp → Prop) (h0 : Pv 0 σ H) (hq : ∀ i σ H, Pv i σ H → SqT K H a xs ∧ SqT K H b ys)
    (hs : ∀ (i : Nat) (x y : V) (T : Addr) (σ : L2.St) (H : Hp), xs[i]? = some x → ys[i]? = some y → Pv i σ H → H T = none → g (.ref T) σ (upd H T (.tup [x, y])) fun σ2 H2 => tb { D with nx := Pv (i + 1), ct := Pv (i + 1), bk := D.nx } σ2 H2)
    (hd : ∀ i σ H, (xs.length ≤ i ∨ ys.length ≤ i) → i ≤ xs.length → i ≤ ys.length → Pv i σ H → D.nx σ H) : ∃ W : Nat → Nat → L2.St → Hp → Prop, (∃ m, W 0 m σ H) ∧ ∀ i m σ H, W i m σ H →
      ((RZ.ItzT K a b).stop i H ∧ D.nx σ H) ∨ ((RZ.ItzT K a b).go i H ∧ ∃ N : L2.St → Hp → Prop, (∀ σ' H', N σ' H' → ∃ m', m' < m ∧ W (i + 1) m' σ' H') ∧ ∀ v H', (RZ.ItzT K a b).yld i H v H' → g v σ H' fun σ2 H2 => tb { D with nx := N, ct := N, bk := D.nx } σ2 H2) := by
  refine ⟨fun i m σ H => m = xs.length - i ∧ (i ≤ xs.length ∧ i ≤ ys.length) ∧ Pv i σ H, ⟨xs.length, rfl, ⟨Nat.zero_le _, Nat.zero_le _⟩, h0⟩, ?_⟩
  rintro i m σ H ⟨rfl, ⟨hx, hy⟩, p⟩
  obtain ⟨qx, qy⟩ := hq i σ H p
  by_cases lx : i < xs.length
  · by_cases ly : i < ys.length
    · refine .inr ⟨⟨xs, ys, _, _, qx, qy, List.getElem?_eq_getElem lx, List.getElem?_eq_getElem ly⟩, Pv (i + 1), fun σ' H' p' => ⟨xs.length - (i + 1), by omega, rfl, ⟨lx, ly⟩, p'⟩, fun v H' z => ?_⟩
      obtain ⟨T, x', y', rfl, hT, rfl, f1, f2⟩ := z
      (exact hs i x' y' T σ H (f1 xs qx) (f2 ys qy) p hT)
    · have e : ys.length ≤ i := by omega
      exact .inl ⟨⟨xs, ys, qx, qy, .inr e⟩, hd i σ H (.inr e) hx hy p⟩
  · have e : xs.length ≤ i := by omega
    exact .inl ⟨⟨xs, ys, qx, qy, .inl e⟩, hd i σ H (.inl e) hx hy p⟩
def sg (i j : Int) : Int := (if j < i then 1 else 0) - (if i < j then 1 else 0)
theorem sg_dec (i j : Int) : sg i j = (if decide (j < i) = true then 1 else 0) - (if decide (i < j) = true then 1 else 0) := by
  unfold sg
  simp only [decide_eq_true_eq]
inductive Cm : Kd → PyData → PyData → Int → Prop
  | unit : Cm .unit (.tuple []) (.tuple []) 0
  | num (i j : Int) : Cm .num (.int i) (.int j) (sg i j)
  | pairN {a b : Kd} {x y x' y' : PyData} {r : Int} (h : Cm a x x' r) (n : r ≠ 0) : Cm (.pair a b) (.tuple [.str "pair", x, y]) (.tuple [.str "pair", x', y']) r
  | pairE {a b : Kd} {x y x' y' : PyData} {r : Int} (h : Cm a x x' 0) (h2 : Cm b y y' r) : Cm (.pair a b) (.tuple [.str "pair", x, y]) (.tuple [.str "pair", x', y']) r
  | left {a b : Kd} {x x' : PyData} {r : Int} (h : Cm a x x' r) : Cm (.eith a b) (.tuple [.str "left", x]) (.tuple [.str "left", x']) r
  | right {a b : Kd} {x x' : PyData} {r : Int} (h : Cm b x x' r) : Cm (.eith a b) (.tuple [.str "right", x]) (.tuple [.str "right", x']) r
  | leftRight {a b : Kd} {x x' : PyData} : Cm (.eith a b) (.tuple [.str "left", x]) (.tuple [.str "right", x']) (-1)
  | rightLeft {a b : Kd} {x x' : PyData} : Cm (.eith a b) (.tuple [.str "right", x]) (.tuple [.str "left", x']) 1
  | lstN {a : Kd} {xs ys : List PyData} {i : Nat} {x y : PyData} {r : Int} (hx : xs[i]? = some x) (hy : ys[i]? = some y) (pre : ∀ (j : Nat) (x' y' : PyData), j < i → xs[j]? = some x' → ys[j]? = some y' → Cm a x' y' 0) (h : Cm a x y r) (n : r ≠ 0) :
      Cm (.lst a) (.tuple xs) (.tuple ys) r
  | lstE {a : Kd} {xs ys : List PyData} (pre : ∀ (j : Nat) (x' y' : PyData), xs[j]? = some x' → ys[j]? = some y' → Cm a x' y' 0) : Cm (.lst a) (.tuple xs) (.tuple ys) (sg xs.length ys.length)
def spOrd (n : Nat) : Sp := fun vs H Q _ => ∃ (F : Addr → Prop) (kv ov tv : V) (k : Kd) (d e : PyData) (N : Nat), vs = [kv, ov, tv] ∧ Dt F H kv k.d ∧ Dt F H ov d ∧ Dt F H tv e ∧ k.dep ≤ n ∧ k.closed = true ∧ k.noFn = true ∧ VV N k d ∧ VV N k e ∧
  ∀ (r : Int) (H' : Hp), Cm k d e r → Same H H' → Q (.int r) H'
end KB
namespace KB
open PySem L2 PySem.Spec PyProof.Rows
structure KI (P : Program) (w : World) (K : PySem.W.Frag) (d : Addr) (kvs : List (L2.Key × V)) : Prop where
  low : (d == sysModules) = Bool.false
  ex : ∃ vs, KV kvs vs ∧ ∀ h : Heap, K.In h → h.DictOf (mixKind P w) d vs
section
variable {X : Cx} {d : Addr} {kvs : List (L2.Key × V)}
theorem op_notIn_ki (D : KI X.prog X.w X.K d kvs) : OpR X (compareOp .NotIn) (fun x y H Q => ∃ k : L2.Key, x = kV k ∧ y = .ref d ∧ Q (.bl (!(valV kvs k).isSome)) H) := by
  (intro pins s σ H x y v u Q I rx ry h)
  obtain ⟨k, rfl, rfl, q⟩ := h
  cases ry
  obtain ⟨vs, rel, dd⟩ := D.ex
  refine wpAny_notIn_of (kV_is rx) D.low (dd _ I.kIn).mapOf ?_
  rw [← (rel.val k).isSome_eq]
  exact ⟨.bl _, H, I.tok _, rfl, q⟩
theorem ix_ki (D : KI X.prog X.w X.K d kvs) : IxR X (fun x y H Q => ∃ (k : L2.Key) (r : V), x = .ref d ∧ y = kV k ∧ valV kvs k = some r ∧ Q r H) := by
  (intro value slice pins s σ H x y v u Q I rx ry h hs)
  obtain ⟨k, r, rfl, rfl, l, q⟩ := h
  obtain rfl : v = Value.ref d := rx
  obtain ⟨vs, rel, dd⟩ := D.ex
  obtain ⟨w', hw, rw'⟩ := RelO.some_of (v := r) (o := valueAt vs k) (by rw [← l]; exact rel.val k)
  have hm := (dd _ I.kIn).mapOf
  exact tail_any hm.typeIs PySem.F.slot_dict_getitem.lookup (wpAny_getItem_of (kV_is ry) hm hw ⟨r, H, I.tok _, rw', q⟩) hs
end
theorem pgT {X : Cx} {K : PySem.W.Frag} {es : List Expr} {k : Nat} {t : TGs} {n : Nat} {pos : Pos} (h : X.K = K) (hc : X.calm = true) (hg : PGs X es t)
    (hn : (assignEach es X.env).length = n := by rfl) (hst : (assignEach es X.env).findIdx? (·.1) = none := by rfl) : PG X (.Tuple es k pos) (gTup K n t) := by
  rw [← h]
  exact pg_tup hc hg hn hst
def txB : PyData → List Str → Bool
  | .str x, xs => xs.contains x
  | _, _ => false
theorem inV_str (x : Str) (xs : List Str) : inV (.str x) (xs.map V.str) = xs.contains x := by
  induction xs with
  | nil => rfl
  | cons y ys ih =>
    have e : inV (.str x) ((y :: ys).map V.str) = ((y == x) || inV (.str x) (ys.map V.str)) := rfl
    rw [e, ih, List.contains_cons, Bool.beq_comm]
theorem flat_strs (xs : List Str) : (xs.map V.str).all flatV = true := by
  induction xs with
  | nil => rfl
  | cons y ys ih => exact ih
def spTxt (K : PySem.W.Frag) : Sp := fun vs H Q _ => ∃ (F : Addr → Prop) (v : V) (t : Addr) (d : PyData) (xs : List Str), vs = [v, .ref t] ∧ Dt F H v d ∧ SqT K H t (xs.map V.str) ∧ Q (.bl (txB d xs)) H
end KB
namespace KB
open PySem L2 PySem.Spec PyProof.Rows
def Kp (S : List Addr) (H H' : Hp) : Prop := ∀ b o, b ∉ S → H b = some o → H' b = some o
abbrev Ot (S : List Addr) : Addr → Prop := fun a => a ∉ S
section
variable {S : List Addr} {H H1 H2 : Hp} {v : V} {d : PyData} {vs : List V} {ds : List PyData} {b p : Addr} {o : HO}
theorem Kp.refl (S : List Addr) (H : Hp) : Kp S H H := fun _ _ _ h => h
theorem Kp.trans (x : Kp S H H1) (y : Kp S H1 H2) : Kp S H H2 := fun b o n h => y b o n (x b o n h)
theorem Kp.same (x : Same H H1) : Kp S H H1 := fun b o _ h => x b o h
theorem Kp.put (h : b ∈ S) : Kp S H (upd H b o) := fun c u n e => by
  rw [upd_ne (fun z => n (by rw [z]; exact h))]
  exact e
theorem Kp.new (h : H p = none) : Kp S H (upd H p o) := Kp.same (Same.new h)
theorem Kp.grow (x : Kp S H H1) : Kp (p :: S) H H1 := fun b o n h => x b o (fun z => n (List.mem_cons_of_mem _ z)) h
theorem Kp.thin (x : Kp (p :: S) H H1) (h : H p = none) : Kp S H H1 := fun b o n e => x b o (fun z => (List.mem_cons.mp z).elim (fun z => by rw [z, h] at e; cases e) n) e
theorem Kp.toSame (x : Kp [] H H1) : Same H H1 := fun b o h => x b o (fun z => nomatch z) h
theorem Dt.kp (h : Dt (Ot S) H v d) (k : Kp S H H1) : Dt (Ot S) H1 v d := h.move fun a o f e => ⟨f, k a o f e⟩
theorem DtA.kp (h : DtA (Ot S) H vs ds) (k : Kp S H H1) : DtA (Ot S) H1 vs ds := h.move fun a o f e => ⟨f, k a o f e⟩
theorem Dt.wide (h : Dt (Ot S) H v d) (n : H p = none) : Dt (Ot (p :: S)) H v d := h.move fun a o f e => ⟨fun z => (List.mem_cons.mp z).elim (fun z => by rw [z, n] at e; cases e) f, e⟩
theorem DtA.wide (h : DtA (Ot S) H vs ds) (n : H p = none) : DtA (Ot (p :: S)) H vs ds := h.move fun a o f e => ⟨fun z => (List.mem_cons.mp z).elim (fun z => by rw [z, n] at e; cases e) f, e⟩
theorem Dt.less (h : Dt (Ot (p :: S)) H v d) : Dt (Ot S) H v d := h.move fun a o f e => ⟨fun z => f (List.mem_cons_of_mem _ z), e⟩
theorem DtA.less (h : DtA (Ot (p :: S)) H vs ds) : DtA (Ot S) H vs ds := h.move fun a o f e => ⟨fun z => f (List.mem_cons_of_mem _ z), e⟩
theorem Dt.any {F : Addr → Prop} (h : Dt F H v d) : Dt (Ot []) H v d := h.move fun a o f e => ⟨fun z => (by cases z), e⟩
theorem DtA.any {F : Addr → Prop} (h : DtA F H vs ds) : DtA (Ot []) H vs ds := h.move fun a o f e => ⟨fun z => (by cases z), e⟩
theorem ot_new (hS : ∀ a ∈ S, H a ≠ none) : ∀ p, H p = none → Ot S p := fun p np z => hS p z np
theorem DtA.snoc : ∀ {ds : List PyData} {vs : List V} {d : PyData}, DtA (Ot S) H vs (ds ++ [d]) → ∃ ws x, vs = ws ++ [x] ∧ DtA (Ot S) H ws ds ∧ Dt (Ot S) H x d
  | [], _, _, h => by
    obtain ⟨x, rfl, hx⟩ := DtA.one h
    exact ⟨[], x, rfl, .nil, hx⟩
  | e :: ds, _, _, h => by
    rw [List.cons_append] at h
    cases h with
    | cons h r =>
      obtain ⟨ws, x, rfl, r', hx⟩ := DtA.snoc r
      exact ⟨_ :: ws, x, rfl, .cons h r', hx⟩
end
def Kd.word : Kd → Str
  | num => "num"
  | unit => "unit"
  | var _ => "var"
  | lst _ => "list"
  | pair _ _ => "pair"
  | eith _ _ => "either"
  | fn _ _ => "fun"
def Kd.kids : Kd → List Kd
  | num => []
  | unit => []
  | var _ => []
  | lst a => [a]
  | pair a b => [a, b]
  | eith a b => [a, b]
  | fn a b => [a, b]
def Kd.kz : Kd → Nat
  | num => 1
  | unit => 1
  | var _ => 1
  | lst a => a.kz + 1
  | pair a b => a.kz + b.kz + 1
  | eith a b => a.kz + b.kz + 1
  | fn a b => a.kz + b.kz + 1
theorem Kd.d_eq : ∀ {k : Kd}, k.closed = true → k.d = .tuple (.str k.word :: k.kids.map Kd.d)
  | num, _ => rfl
  | unit, _ => rfl
  | var _, h => by cases h
  | lst a, _ => rfl
  | pair a b, _ => rfl
  | eith a b, _ => rfl
  | fn a b, _ => rfl
theorem Kd.not_var : ∀ {k : Kd}, k.closed = true → k.word ≠ "var"
  | num, _ => by show ("num" : Str) ≠ "var"; decide
  | unit, _ => by show ("unit" : Str) ≠ "var"; decide
  | var _, h => by cases h
  | lst a, _ => by show ("list" : Str) ≠ "var"; decide
  | pair a b, _ => by show ("pair" : Str) ≠ "var"; decide
  | eith a b, _ => by show ("either" : Str) ≠ "var"; decide
  | fn a b, _ => by show ("fun" : Str) ≠ "var"; decide
theorem Kd.not_fun : ∀ {k : Kd}, k.noFn = true → k.word ≠ "fun"
  | num, _ => by show ("num" : Str) ≠ "fun"; decide
  | unit, _ => by show ("unit" : Str) ≠ "fun"; decide
  | var _, _ => by show ("var" : Str) ≠ "fun"; decide
  | lst a, _ => by show ("list" : Str) ≠ "fun"; decide
  | pair a b, _ => by show ("pair" : Str) ≠ "fun"; decide
  | eith a b, _ => by show ("either" : Str) ≠ "fun"; decide
  | fn a b, h => by cases h
theorem Kd.kids_ok : ∀ {k : Kd}, k.closed = true → k.noFn = true → ∀ x ∈ k.kids, x.closed = true ∧ x.noFn = true ∧ x.dep + 1 ≤ k.dep
  | num, _, _ => fun x h => by cases h
  | unit, _, _ => fun x h => by cases h
  | var _, _, _ => fun x h => by cases h
  | lst a, c, n => fun x h => by
    rw [List.mem_singleton.mp h]
    exact ⟨c, n, Nat.le_refl _⟩
  | pair a b, c, n => fun x h => by
    obtain ⟨c1, c2⟩ := Bool.and_eq_true_iff.mp (show (a.closed && b.closed) = true from c)
    obtain ⟨n1, n2⟩ := Bool.and_eq_true_iff.mp (show (a.noFn && b.noFn) = true from n)
    have e : (Kd.pair a b).dep = max a.dep b.dep + 1 := rfl
    rcases List.mem_cons.mp h with h | h
    · rw [h]
      exact ⟨c1, n1, by omega⟩
    · rw [List.mem_singleton.mp h]
      exact ⟨c2, n2, by omega⟩
  | eith a b, c, n => fun x h => by
    obtain ⟨c1, c2⟩ := Bool.and_eq_true_iff.mp (show (a.closed && b.closed) = true from c)
    obtain ⟨n1, n2⟩ := Bool.and_eq_true_iff.mp (show (a.noFn && b.noFn) = true from n)
    have e : (Kd.eith a b).dep = max a.dep b.dep + 1 := rfl
    rcases List.mem_cons.mp h with h | h
    · rw [h]
      exact ⟨c1, n1, by omega⟩
    · rw [List.mem_singleton.mp h]
      exact ⟨c2, n2, by omega⟩
  | fn a b, c, n => by cases n
theorem Kd.kids_kz : ∀ k : Kd, (k.kids.map Kd.kz).sum + 1 = k.kz
  | num => rfl
  | unit => rfl
  | var _ => rfl
  | lst a => by simp [Kd.kids, Kd.kz]
  | pair a b => by simp [Kd.kids, Kd.kz]
  | eith a b => by simp [Kd.kids, Kd.kz]
  | fn a b => by simp [Kd.kids, Kd.kz]
theorem Kd.kids_len : ∀ k : Kd, k.kids.length ≤ 2
  | num => by decide
  | unit => by decide
  | var _ => Nat.zero_le _
  | lst a => by show 1 ≤ 2; decide
  | pair a b => Nat.le_refl 2
  | eith a b => Nat.le_refl 2
  | fn a b => Nat.le_refl 2
theorem Kd.dep_pos : ∀ k : Kd, 1 ≤ k.dep
  | num => Nat.le_refl 1
  | unit => Nat.le_refl 1
  | var _ => Nat.le_refl 1
  | lst a => Nat.le_add_left _ _
  | pair a b => Nat.le_add_left _ _
  | eith a b => Nat.le_add_left _ _
  | fn a b => Nat.le_add_left _ _
theorem Kd.kz_dep : ∀ k : Kd, k.kz + 1 ≤ 2 ^ k.dep
  | num => by decide
  | unit => by decide
  | var _ => by show 1 + 1 ≤ 2 ^ 1; decide
  | lst a => by
    have h := Kd.kz_dep a
    have e : 2 ^ (Kd.lst a).dep = 2 * 2 ^ a.dep := by rw [Nat.mul_comm]; exact Nat.pow_succ _ _
    have z : (Kd.lst a).kz = a.kz + 1 := rfl
    omega
  | pair a b => by
    have h1 := Nat.le_trans (Kd.kz_dep a) (Nat.pow_le_pow_right (by decide) (Nat.le_max_left a.dep b.dep))
    have h2 := Nat.le_trans (Kd.kz_dep b) (Nat.pow_le_pow_right (by decide) (Nat.le_max_right a.dep b.dep))
    have e : 2 ^ (Kd.pair a b).dep = 2 * 2 ^ (max a.dep b.dep) := by rw [Nat.mul_comm]; exact Nat.pow_succ _ _
    have z : (Kd.pair a b).kz = a.kz + b.kz + 1 := rfl
    omega
  | eith a b => by
    have h1 := Nat.le_trans (Kd.kz_dep a) (Nat.pow_le_pow_right (by decide) (Nat.le_max_left a.dep b.dep))
    have h2 := Nat.le_trans (Kd.kz_dep b) (Nat.pow_le_pow_right (by decide) (Nat.le_max_right a.dep b.dep))
    have e : 2 ^ (Kd.eith a b).dep = 2 * 2 ^ (max a.dep b.dep) := by rw [Nat.mul_comm]; exact Nat.pow_succ _ _
    have z : (Kd.eith a b).kz = a.kz + b.kz + 1 := rfl
    omega
  | fn a b => by
    have h1 := Nat.le_trans (Kd.kz_dep a) (Nat.pow_le_pow_right (by decide) (Nat.le_max_left a.dep b.dep))
    have h2 := Nat.le_trans (Kd.kz_dep b) (Nat.pow_le_pow_right (by decide) (Nat.le_max_right a.dep b.dep))
    have e : 2 ^ (Kd.fn a b).dep = 2 * 2 ^ (max a.dep b.dep) := by rw [Nat.mul_comm]; exact Nat.pow_succ _ _
    have z : (Kd.fn a b).kz = a.kz + b.kz + 1 := rfl
    omega
def Has (P : Program) (w : World) (K : PySem.W.Frag) (mg : Str → Option Value) (base : Heap) (x : Str) (ps : List Str) (k : Nat) (sp : Sp) : Prop :=
  ∃ (f : Addr) (fd : FuncData), PySem.W.keepIn K (.ref f) = true ∧ mg x = some (.ref f) ∧ Binds K fd ps [] ∧ FnOk P w K mg base CX0 k f fd ps sp
end KB
namespace KB
open PySem L2 PySem.Spec PyProof.Rows
structure Pf (P : Program) (w : World) (K : PySem.W.Frag) (mg : Str → Option Value) (dW t1 t2 t3 aV : Addr) (tk : Nat) : Prop where
  gW : mg "WORDS_BY_LENGTH" = some (.ref dW)
  D : KI P w K dW [(.inl 1, .ref t1), (.inl 2, .ref t2), (.inl 3, .ref t3)]
  s1 : ∀ H, SqT K H t1 ((["unit", "num"] : List Str).map V.str)
  s2 : ∀ H, SqT K H t2 ((["var", "list"] : List Str).map V.str)
  s3 : ∀ H, SqT K H t3 ((["pair", "either", "fun"] : List Str).map V.str)
  gV : mg "VARIABLES" = some (.ref aV)
  gD : mg "DEEPEST" = some (.int 100 tk)
def spHfK : Sp := fun vs H Q _ => ∃ (F : Addr → Prop) (v : V) (k : Kd), vs = [v] ∧ Dt F H v k.d ∧ k.closed = true ∧ Q (.bl true) H
def lvD (p : Kd × Int) : PyData := .tuple [p.1.d, .int p.2]
def spPwl : Sp := fun vs H Q _ => ∃ (F : Addr → Prop) (v : V) (k : Kd), vs = [v] ∧ Dt F H v k.d ∧ k.closed = true ∧ k.noFn = true ∧ k.dep ≤ 100 ∧ k.kz ≤ 10000 ∧
  ∀ (G : Addr) (gs : List V) (ps : List (Kd × Int)) (H' : Hp), Same H H' → H' G = some (.lst gs) → DtA (Ot []) H' gs (ps.map lvD) → (∀ p ∈ ps, p.1.closed = true ∧ p.1.noFn = true) → ps.length ≤ 10000 → Q (.ref G) H'
theorem kids_lv (ks : List Kd) (l : Int) (i : Nat) (k : Kd) (h : ks[i]? = some k) : (ks.take (i + 1)).map (fun k => lvD (k, l)) = (ks.take i).map (fun k => lvD (k, l)) ++ [lvD (k, l)] := by
  rw [List.take_add_one, h, List.map_append]
  rfl
theorem slC {K : PySem.W.Frag} {F : Addr → Prop} {σ : L2.St} {H : Hp} {u : Nat} {vv : V} {ds : List PyData} {Q : VK} (i : Nat) (hF : ∀ p, H p = none → F p) (su : σ[u]? = some (some vv)) (hv : Dt F H vv (.tuple ds)) (q : ∀ v H', Same H H' → Dt F H' v (.tuple (ds.drop i)) → Q v H') :
    tSl (rSlA K) (tVar u) (tPart (tC (V.int (i : Int)))) tNoPart σ H Q := ⟨_, su, _, rfl, dropD hF hv q⟩
end KB
namespace KB
open PySem L2 PySem.Spec PyProof.Rows
def spKw : Sp := fun vs H Q _ => ∃ (F : Addr → Prop) (v : V) (k : Kd) (wd : Str), vs = [v, .str wd] ∧ Dt F H v k.d ∧ k.closed = true ∧ k.noFn = true ∧ k.dep ≤ 100 ∧ k.kz ≤ 10000 ∧ (wd = "fun" ∨ wd = "var") ∧ ∀ H', Same H H' → Q (.bl true) H'
def spDk : Sp := fun vs H Q _ => ∃ (F : Addr → Prop) (v : V) (k : Kd), vs = [v] ∧ Dt F H v k.d ∧ k.closed = true ∧ k.noFn = true ∧ k.dep ≤ 100 ∧ k.kz ≤ 10000 ∧ ∀ H', Same H H' → Q (.bl true) H'
def spCk : Sp := fun vs H Q _ => ∃ (F : Addr → Prop) (v : V) (k : Kd), vs = [v] ∧ Dt F H v k.d ∧ k.closed = true ∧ k.noFn = true ∧ k.dep ≤ 100 ∧ k.kz ≤ 10000 ∧ ∀ H', Same H H' → Q .non H'
end KB
namespace KB
open PySem L2 PySem.Spec PyProof.Rows
def isNum : PyData → Bool
  | .int _ => true
  | _ => false
def hasF : Kd → PyData → Bool
  | .num, d => isNum d
  | .unit, .tuple ds => decide (ds.length = 0)
  | .pair _ _, .tuple (d :: ds) => decide (ds.length = 2) && txB d ["pair"]
  | .eith _ _, .tuple (d :: ds) => decide (ds.length = 1) && txB d ["left", "right"]
  | .lst _, .tuple _ => true
  | _, _ => false
def pbs : Kd → PyData → List (Kd × PyData)
  | .pair a b, .tuple [_, x, y] => [(a, x), (b, y)]
  | .eith a b, .tuple [.str p, x] => [(if p = "left" then a else b, x)]
  | .lst a, .tuple xs => xs.map fun x => (a, x)
  | _, _ => []
def pvD (p : Kd × PyData) : PyData := .tuple [p.1.d, p.2]
theorem hasF_notup {k : Kd} {d : PyData} (hk : k ≠ .num) (hd : isTup d = false) : hasF k d = false := by
  cases k <;> cases d <;> first | rfl | exact absurd rfl hk | cases hd
theorem contains_two (p x y : Str) : ([x, y] : List Str).contains p = true ↔ p = x ∨ p = y := by simp
theorem contains_one (p x : Str) : ([x] : List Str).contains p = true ↔ p = x := by simp
theorem isV_eq : ∀ (k : Kd) (d : PyData), k.closed = true → k.noFn = true → isV k d = (hasF k d && (pbs k d).all fun p => isV p.1 p.2)
  | .num, d, _, _ => by cases d <;> rfl
  | .unit, .tuple [], _, _ => rfl
  | .unit, .tuple (d :: ds), _, _ => by rw [isV_unit]; rfl
  | .unit, .none, _, _ => rfl
  | .unit, .bool _, _, _ => rfl
  | .unit, .int _, _, _ => rfl
  | .unit, .str _, _, _ => rfl
  | .unit, .list _, _, _ => rfl
  | .unit, .dict _, _, _ => rfl
  | .lst a, .tuple xs, _, _ => by
    rw [isV_lst]
    show _ = (true && (xs.map fun x => (a, x)).all fun p => isV p.1 p.2)
    rw [List.all_map, Bool.true_and]
    rfl
  | .lst a, .none, _, _ => rfl
  | .lst a, .bool _, _, _ => rfl
  | .lst a, .int _, _, _ => rfl
  | .lst a, .str _, _, _ => rfl
  | .lst a, .list _, _, _ => rfl
  | .lst a, .dict _, _, _ => rfl
  | .pair a b, .tuple ds, _, _ => by
    by_cases h : ds.length = 3
    · obtain ⟨d, x, y, rfl⟩ : ∃ d x y, ds = [d, x, y] := by
        rcases ds with _ | ⟨d, _ | ⟨x, _ | ⟨y, _ | ⟨z, r⟩⟩⟩⟩ <;> simp at h
        exact ⟨d, x, y, rfl⟩
      cases d with
      | str p =>
        show (decide (p = "pair") && (isV a x && isV b y)) = ((true && ([("pair" : Str)].contains p)) && (isV a x && (isV b y && true)))
        rw [Bool.and_true, Bool.true_and]
        congr 1
        by_cases e : p = "pair"
        · rw [decide_eq_true e, (contains_one _ _).mpr e]
        · rw [decide_eq_false e, Bool.eq_false_iff.mpr fun z => e ((contains_one _ _).mp z)]
      | _ => rfl
    · rw [isV_pairL h]
      rcases ds with _ | ⟨d, ds⟩
      · rfl
      · have : decide (ds.length = 2) = false := decide_eq_false fun z => h (by rw [List.length_cons, z])
        show false = ((decide (ds.length = 2) && txB d ["pair"]) && _)
        rw [this, Bool.false_and, Bool.false_and]
  | .pair a b, .none, _, _ => rfl
  | .pair a b, .bool _, _, _ => rfl
  | .pair a b, .int _, _, _ => rfl
  | .pair a b, .str _, _, _ => rfl
  | .pair a b, .list _, _, _ => rfl
  | .pair a b, .dict _, _, _ => rfl
  | .eith a b, .tuple ds, _, _ => by
    by_cases h : ds.length = 2
    · obtain ⟨d, x, rfl⟩ : ∃ d x, ds = [d, x] := by
        rcases ds with _ | ⟨d, _ | ⟨x, _ | ⟨y, r⟩⟩⟩ <;> simp at h
        exact ⟨d, x, rfl⟩
      cases d with
      | str p =>
        show (if p = "left" then isV a x else decide (p = "right") && isV b x) = ((true && ([("left" : Str), "right"].contains p)) && (isV (if p = "left" then a else b) x && true))
        rw [Bool.and_true, Bool.true_and]
        by_cases e : p = "left"
        · rw [if_pos e, if_pos e, (contains_two _ _ _).mpr (.inl e), Bool.true_and]
        · rw [if_neg e, if_neg e]
          congr 1
          by_cases e2 : p = "right"
          · rw [decide_eq_true e2, (contains_two _ _ _).mpr (.inr e2)]
          · rw [decide_eq_false e2, Bool.eq_false_iff.mpr fun z => ((contains_two _ _ _).mp z).elim e e2]
      | _ => rfl
    · rw [isV_eithL h]
      rcases ds with _ | ⟨d, ds⟩
      · rfl
      · have : decide (ds.length = 1) = false := decide_eq_false fun z => h (by rw [List.length_cons, z])
        show false = ((decide (ds.length = 1) && txB d ["left", "right"]) && _)
        rw [this, Bool.false_and, Bool.false_and]
  | .eith a b, .none, _, _ => rfl
  | .eith a b, .bool _, _, _ => rfl
  | .eith a b, .int _, _, _ => rfl
  | .eith a b, .str _, _, _ => rfl
  | .eith a b, .list _, _, _ => rfl
  | .eith a b, .dict _, _, _ => rfl
  | .var x, d, h, _ => by cases h
  | .fn a b, d, _, h => by cases h
def wz (ps : List (Kd × PyData)) : Nat := (ps.map fun p => sz p.2 + 1).sum
theorem wz_app (a b : List (Kd × PyData)) : wz (a ++ b) = wz a + wz b := by
  unfold wz
  rw [List.map_append, List.sum_append]
theorem wz_len : ∀ ps : List (Kd × PyData), ps.length ≤ wz ps
  | [] => Nat.zero_le _
  | p :: ps => by
    have e : wz (p :: ps) = (sz p.2 + 1) + wz ps := rfl
    have := wz_len ps
    rw [List.length_cons]
    omega
theorem wz_all (a : Kd) : ∀ xs : List PyData, wz (xs.map fun x => (a, x)) ≤ szA xs
  | [] => Nat.zero_le _
  | x :: xs => by
    have e : wz ((x :: xs).map fun x => (a, x)) = (sz x + 1) + wz (xs.map fun x => (a, x)) := rfl
    have := wz_all a xs
    rw [e, szA]
    omega
theorem wz_pbs : ∀ (k : Kd) (d : PyData), wz (pbs k d) ≤ sz d
  | .lst a, .tuple xs => by
    have := wz_all a xs
    rw [sz]
    show wz (xs.map fun x => (a, x)) ≤ _
    omega
  | .pair a b, .tuple [d, x, y] => by
    have e : wz (pbs (.pair a b) (.tuple [d, x, y])) = (sz x + 1) + ((sz y + 1) + 0) := rfl
    rw [e, sz, szA, szA, szA, szA]
    omega
  | .eith a b, .tuple [.str p, x] => by
    have e : wz (pbs (.eith a b) (.tuple [.str p, x])) = (sz x + 1) + 0 := rfl
    rw [e, sz, szA, szA, szA]
    omega
  | .num, d => Nat.zero_le _
  | .unit, d => Nat.zero_le _
  | .var _, d => Nat.zero_le _
  | .fn _ _, d => Nat.zero_le _
  | .lst a, .none => Nat.zero_le _
  | .lst a, .bool _ => Nat.zero_le _
  | .lst a, .int _ => Nat.zero_le _
  | .lst a, .str _ => Nat.zero_le _
  | .lst a, .list _ => Nat.zero_le _
  | .lst a, .dict _ => Nat.zero_le _
  | .pair a b, d => by
    by_cases h : pbs (.pair a b) d = []
    · rw [h]
      exact Nat.zero_le _
    · cases d with
      | tuple ds =>
        rcases ds with _ | ⟨d, _ | ⟨x, _ | ⟨y, _ | ⟨z, r⟩⟩⟩⟩ <;> first | exact absurd rfl h | skip
        have e : wz (pbs (.pair a b) (.tuple [d, x, y])) = (sz x + 1) + ((sz y + 1) + 0) := rfl
        rw [e, sz, szA, szA, szA, szA]
        omega
      | _ => exact absurd rfl h
  | .eith a b, d => by
    by_cases h : pbs (.eith a b) d = []
    · rw [h]
      exact Nat.zero_le _
    · cases d with
      | tuple ds =>
        rcases ds with _ | ⟨d, _ | ⟨x, _ | ⟨y, r⟩⟩⟩ <;> first | exact absurd rfl h | skip
        · cases d <;> exact absurd rfl h
        · cases d <;> first | exact absurd rfl h | skip
          rename_i p
          have e : wz (pbs (.eith a b) (.tuple [.str p, x])) = (sz x + 1) + 0 := rfl
          rw [e, sz, szA, szA, szA]
          omega
        · cases d <;> exact absurd rfl h
      | _ => exact absurd rfl h
theorem pbs_ok {k : Kd} {d : PyData} (hc : k.closed = true) (hn : k.noFn = true) : ∀ p ∈ pbs k d, p.1.closed = true ∧ p.1.noFn = true := by
  have kk := Kd.kids_ok hc hn
  intro p hp
  have hk : p.1 ∈ k.kids := by
    unfold pbs at hp
    split at hp
    · rcases List.mem_cons.mp hp with e | e
      · rw [e]; exact List.mem_cons_self
      · rw [List.mem_singleton.mp e]; exact List.mem_cons_of_mem _ List.mem_cons_self
    · (rw [List.mem_singleton.mp hp])
      show (if _ then _ else _) ∈ _
      split
      · exact List.mem_cons_self
      · exact List.mem_cons_of_mem _ List.mem_cons_self
    · obtain ⟨x, _, rfl⟩ := List.mem_map.mp hp
      exact List.mem_cons_self
    · cases hp
  exact ⟨(kk _ hk).1, (kk _ hk).2.1⟩
def spNb : Sp := fun vs H Q _ => ∃ (F : Addr → Prop) (v : V) (d : PyData), vs = [v] ∧ Dt F H v d ∧ Q (.bl (isNum d)) H
def spHv : Sp := fun vs H Q _ => ∃ (F : Addr → Prop) (kv v : V) (k : Kd) (d : PyData), vs = [kv, v] ∧ Dt F H kv k.d ∧ k.closed = true ∧ k.noFn = true ∧ Dt F H v d ∧ ∀ H', Same H H' → Q (.bl (hasF k d)) H'
def spPb : Sp := fun vs H Q _ => ∃ (F : Addr → Prop) (kv v : V) (k : Kd) (d : PyData) (n : Nat), vs = [kv, v] ∧ (∀ p, H p = none → F p) ∧ Dt F H kv k.d ∧ k.closed = true ∧ k.noFn = true ∧ Dt F H v d ∧ hasF k d = true ∧ sz d ≤ 10000000 ∧
  ∀ (L : Addr) (ls : List V) (H' : Hp), Same H H' → H L = none → H' L = some (.lst ls) → DtA F H' ls ((pbs k d).map pvD) → Q (.ref L) H'
def spSu : Sp := fun vs H Q _ => ∃ (F : Addr → Prop) (kv v : V) (k : Kd) (d : PyData), vs = [kv, v] ∧ Dt F H kv k.d ∧ k.closed = true ∧ k.noFn = true ∧ Dt F H v d ∧ sz d ≤ 10000000 ∧ ∀ H', Same H H' → Q (.bl (isV k d)) H'
end KB
namespace KB
open PySem L2 PySem.Spec PyProof.Rows
theorem hasF_pair {a b : Kd} {d : PyData} (h : hasF (.pair a b) d = true) : ∃ x y, d = .tuple [.str "pair", x, y] := by
  cases d with
  | tuple ds =>
    rcases ds with _ | ⟨d, _ | ⟨x, _ | ⟨y, _ | ⟨z, r⟩⟩⟩⟩ <;> first | (simp [hasF] at h; done) | skip
    have h2 : txB d ["pair"] = true := (Bool.and_eq_true_iff.mp (show (decide ([x, y].length = 2) && txB d ["pair"]) = true from h)).2
    cases d with
    | str p => exact ⟨x, y, by rw [(contains_one p "pair").mp h2]⟩
    | _ => cases h2
  | _ => cases h
theorem hasF_eith {a b : Kd} {d : PyData} (h : hasF (.eith a b) d = true) : ∃ p x, d = .tuple [.str p, x] ∧ (p = "left" ∨ p = "right") := by
  cases d with
  | tuple ds =>
    rcases ds with _ | ⟨d, _ | ⟨x, _ | ⟨y, r⟩⟩⟩ <;> first | (simp [hasF] at h; done) | skip
    have h2 : txB d ["left", "right"] = true := (Bool.and_eq_true_iff.mp (show (decide ([x].length = 1) && txB d ["left", "right"]) = true from h)).2
    cases d with
    | str p => exact ⟨p, x, rfl, (contains_two p _ _).mp h2⟩
    | _ => cases h2
  | _ => cases h
theorem hasF_lst {a : Kd} {d : PyData} (h : hasF (.lst a) d = true) : ∃ xs, d = .tuple xs := by
  cases d with
  | tuple ds => exact ⟨ds, rfl⟩
  | _ => cases h
def spIv : Sp := fun vs H Q _ => ∃ (F : Addr → Prop) (kv v : V) (k : Kd) (d : PyData), vs = [kv, v] ∧ Dt F H kv k.d ∧ k.closed = true ∧ k.noFn = true ∧ k.dep ≤ 100 ∧ k.kz ≤ 10000 ∧ Dt F H v d ∧ sz d ≤ 10000000 ∧ ∀ H', Same H H' → Q (.bl (isV k d)) H'
theorem pv_row (a : Kd) (xs : List PyData) (i : Nat) (x : PyData) (h : xs[i]? = some x) : (xs.take (i + 1)).map (fun x => pvD (a, x)) = (xs.take i).map (fun x => pvD (a, x)) ++ [pvD (a, x)] := by
  rw [List.take_add_one, h, List.map_append]
  rfl
end KB
namespace KB
open PySem L2 PySem.Spec PyProof.Rows
theorem first_yes {e r : Nat → Bool} {fin : Bool} : ∀ (n s : Nat), (∀ j, s ≤ j → j < s + n → e j = true) → SeqAt.firstLt e r fin (List.range' s n) = fin
  | 0, _, _ => rfl
  | n + 1, s, h => by
    rw [List.range'_succ, SeqAt.firstLt_yes (h s (Nat.le_refl _) (by omega))]
    exact first_yes n (s + 1) fun j h1 h2 => h j (by omega) (by omega)
theorem first_no {e r : Nat → Bool} {fin : Bool} {i : Nat} (hi : e i = false) : ∀ (n s : Nat), s ≤ i → i < s + n → (∀ j, s ≤ j → j < i → e j = true) → SeqAt.firstLt e r fin (List.range' s n) = r i
  | 0, s, h1, h2, _ => absurd h2 (by omega)
  | n + 1, s, h1, h2, h => by
    rw [List.range'_succ]
    by_cases z : s = i
    · subst z
      exact SeqAt.firstLt_no hi
    · rw [SeqAt.firstLt_yes (h s (Nat.le_refl _) (by omega))]
      exact first_no hi n (s + 1) (by omega) (by omega) fun j h3 h4 => h j (by omega) h4
section
open PySem.SeqAt PySem.MeetsSeq PySem.MeetsSeq2 PySem.MeetsSeq3
structure From (e : Nat → Bool) (xs ys : Array Value) (rest : List (Value × Value)) (i : Nat) : Prop where
  rest : rest = (xs.toList.zip ys.toList).drop i
  pre : ∀ j, j < i → e j = true
theorem tup_lt_meets (a b : Addr) (xs ys : Array Value) (n1 n2 : Nat) (d1 d2 : Option Addr) (l1 l2 : Array (Option Value)) (e r : Nat → Bool) :
    Meets (Builtin.«tuple.__lt__» ⟨[.ref a, .ref b], []⟩)
      (fun A R s =>
        (s.heap.get? a = some { cls := .type "tuple", dict := d1, data := .seq xs n1, slots := l1 } ∧
          s.heap.get? b = some { cls := .type "tuple", dict := d2, data := .seq ys n2, slots := l2 }) ∧
        ((∀ j (h1 : j < xs.size) (h2 : j < ys.size), EqAt A.in1 s xs[j] ys[j] (e j)) ∧
          (∀ j (h1 : j < xs.size) (h2 : j < ys.size), (∀ i, i < j → e i = true) → e j = false → RcLt A.in1 s xs[j] ys[j] (r j))) ∧
        R (.ok (.ret (.bool (firstLt e r (decide (xs.size < ys.size)) (List.range (min xs.size ys.size)))))) s) :=
  .of_wp fun prog w A R s ⟨⟨ha, hb⟩, ⟨hq, hr⟩, h⟩ => by
    (obtain ⟨hp, g, d, tk, os⟩ := s)
    have sub := AutoSeq1.sub_tuple_tuple
    have lz : (xs.toList.zip ys.toList).length = min xs.size ys.size := by simp
    have rg : ∀ i, i < min xs.size ys.size → (List.range (min xs.size ys.size)).drop i = i :: (List.range (min xs.size ys.size)).drop (i + 1) := fun i hi => by
      simp [List.drop_eq_getElem_cons, hi]
    wp_walk using PySem.AutoSeq1.wpAny_loadPart' ha, PySem.AutoSeq1.wpAny_loadPart' hb, wpAny_forIn_list _ (fun rest c z => (c.1 = none ∧ z = ⟨hp, g, d, tk, os⟩) ∧ ∃ i, From e xs ys rest i ∧
      R (.ok (.ret (.bool (firstLt e r (decide (xs.size < ys.size)) ((List.range (min xs.size ys.size)).drop i))))) ⟨hp, g, d, tk, os⟩) _
    case h => exact ⟨⟨rfl, rfl⟩, 0, ⟨rfl, fun j hj => absurd hj (Nat.not_lt_zero j)⟩, by simpa using h⟩
    case fin =>
      rintro ⟨c1, c2⟩ z ⟨⟨hc, rfl⟩, i, F, hR⟩
      simp only at hc
      subst hc
      have out : min xs.size ys.size ≤ i := by
        by_cases lt : i < min xs.size ys.size
        · have := F.rest
          rw [List.drop_eq_getElem_cons (lz ▸ lt)] at this
          cases this
        · exact Nat.le_of_not_lt lt
      rw [List.drop_of_length_le (by simpa using out)] at hR
      wp_walk
      (exact ⟨_, rfl, by simpa [Builtin.Tuple.tupleCompareSizes, firstLt] using hR⟩)
    case turn =>
      rintro ⟨y, x⟩ rest c z ⟨⟨hc, rfl⟩, i, F, hR⟩
      have im : i < min xs.size ys.size := by
        by_cases lt : i < min xs.size ys.size
        · exact lt
        · have := F.rest
          rw [List.drop_of_length_le (by rw [lz]; exact Nat.le_of_not_lt lt)] at this
          cases this
      have i1 : i < xs.size := Nat.lt_of_lt_of_le im (Nat.min_le_left _ _)
      have i2 : i < ys.size := Nat.lt_of_lt_of_le im (Nat.min_le_right _ _)
      have fr := F.rest
      rw [List.drop_eq_getElem_cons (lz ▸ im)] at fr
      injection fr with e1 e2
      obtain rfl : y = xs[i] := by simpa using congrArg Prod.fst e1
      obtain rfl : x = ys[i] := by simpa using congrArg Prod.snd e1
      rw [rg i im] at hR
      refine wpAny_bind (hq i i1 i2 prog w _ _ ?_)
      by_cases q : e i = true
      · rw [q]
        rw [firstLt_yes q] at hR
        wp_walk
        refine ⟨⟨rfl, rfl⟩, i + 1, ⟨e2, fun j hj => ?_⟩, hR⟩
        by_cases z : j = i
        · rw [z]; exact q
        · exact F.pre j (by omega)
      · have q' : e i = false := Bool.eq_false_iff.mpr q
        rw [q']
        rw [firstLt_no q'] at hR
        have less := hr i i1 i2 F.pre q' prog w
        wp_walk using less
        exact ⟨_, rfl, hR⟩
theorem tup_lt {A : Around} {s : Shared} {a b : Addr} {xs ys : Array Value} {e r : Nat → Bool} (ha : s.heap.IsTuple a xs) (hb : s.heap.IsTuple b ys) (hu : A.units < cLine)
    (hq : ∀ j (h1 : j < xs.size) (h2 : j < ys.size), EqAt A.in1 s xs[j] ys[j] (e j)) (hr : ∀ j (h1 : j < xs.size) (h2 : j < ys.size), (∀ i, i < j → e i = true) → e j = false → RcLt A.in1 s xs[j] ys[j] (r j)) :
    RcLt A s (.ref a) (.ref b) (firstLt e r (decide (xs.size < ys.size)) (List.range (min xs.size ys.size))) := fun prog w E Q h => by
  obtain ⟨⟨c1, d1, t1, l1⟩, h1, k1, n1, m1⟩ := id ha
  obtain ⟨⟨c2, d2, t2, l2⟩, h2, k2, n2, m2⟩ := id hb
  simp only at k1 m1 k2 m2
  subst k1 m1 k2 m2
  have last : Value.bool (firstLt e r (decide (xs.size < ys.size)) (List.range (min xs.size ys.size))) ≠ Value.notImplemented ∧ Q (.bool (firstLt e r (decide (xs.size < ys.size)) (List.range (min xs.size ys.size)))) s :=
    ⟨(fun x => nomatch x), h⟩
  exact richCompare_meets_room (op := .Lt) ⟨_, h1, rfl⟩ ⟨_, h2, rfl⟩ F.slot_tuple_lt F.entry_tuple_lt (F.args_tuple_lt_2 _ _) (tup_lt_meets a b xs ys n1 n2 d1 d2 l1 l2 e r) ⟨⟨h1, h2⟩, ⟨hq, hr⟩, last⟩ hu
end
open PySem.SeqAt (room_here room_in pairEq eqvAll_eq)
theorem readsAll_get {h : Heap} : ∀ {ds : List PyData} {vs : List Value} {as : List Addr} {j : Nat} (h1 : j < vs.length) {d : PyData}, ReadsAll h vs ds as → ds[j]? = some d → ∃ bs, Reads h vs[j] d bs
  | d :: ds, _, _, 0, h1, d', r, e => by
    obtain rfl : d = d' := by simpa using e
    cases r with
    | cons r _ => exact ⟨_, r⟩
  | d :: ds, _, _, j + 1, h1, d', r, e => by
    cases r with
    | cons _ r => exact readsAll_get (j := j) (Nat.lt_of_succ_lt_succ h1) r (by simpa using e)
theorem depth_mem : ∀ {ds : List PyData} {d : PyData}, d ∈ ds → d.depth ≤ PyData.depthAll ds
  | e :: ds, d, h => by
    simp only [PyData.depthAll]
    rcases List.mem_cons.mp h with h | h
    · rw [h]; exact Nat.le_max_left _ _
    · exact Nat.le_trans (depth_mem h) (Nat.le_max_right _ _)
section
variable {A : Around} {s : Shared} {a b : Value} {as bs : List Addr} {xs ys : List PyData}
theorem lt_first (ra : Reads s.heap a (.tuple xs) as) (rb : Reads s.heap b (.tuple ys) bs) (pa : PyData.plainAll xs = true) (pb : PyData.plainAll ys = true) (hu : A.units + min (PyData.depth (.tuple xs)) (PyData.depth (.tuple ys)) < cLine)
    {i : Nat} {x y : PyData} (hx : xs[i]? = some x) (hy : ys[i]? = some y) (pre : ∀ j, j < i → pairEq xs ys j = true) (ne : PyData.eqv x y = false) {k : Bool}
    (hl : ∀ v w av aw, Reads s.heap v x av → Reads s.heap w y aw → A.in1.units + min x.depth y.depth < cLine → SeqAt.RcLt A.in1 s v w k) : SeqAt.RcLt A s a b k := by
  cases ra with
  | @tuple l o vs n _ _ h1 h2 h3 h4 =>
    cases rb with
    | @tuple l' o' ws n' _ _ k1 k2 k3 k4 =>
      have e1 : vs.size = xs.length := by simpa using SeqAt.ReadsAll.length _ _ _ h4
      have e2 : ws.size = ys.length := by simpa using SeqAt.ReadsAll.length _ _ _ k4
      have i1 := (List.getElem?_eq_some_iff.mp hx).1
      have i2 := (List.getElem?_eq_some_iff.mp hy).1
      (simp only [PyData.depth] at hu)
      have ei : pairEq xs ys i = false := by
        show PyData.eqv (xs.getD i .none) (ys.getD i .none) = false
        rw [List.getD_eq_getElem?_getD, List.getD_eq_getElem?_getD, hx, hy]
        exact ne
      have main := tup_lt (A := A) (s := s) (e := pairEq xs ys) (r := fun _ => k) ⟨_, h1, h2, _, h3⟩ ⟨_, k1, k2, _, k3⟩ (room_here hu) (fun j j1 j2 => ?_) (fun j j1 j2 hp hf => ?_)
      · rw [List.range_eq_range', first_no ei (min vs.size ws.size) 0 (Nat.zero_le _) (by rw [e1, e2]; omega) (fun j _ hj => pre j hj)] at main
        exact main
      · have := SeqAt.eqAt_plainAll xs ys A.in1 s vs.toList ws.toList _ _ h4 k4 pa pb (room_in hu) j (by simpa using j1) (by simpa using j2)
        simpa using this
      · have ji : j = i := by
          rcases Nat.lt_trichotomy j i with z | z | z
          · rw [pre j z] at hf; cases hf
          · exact z
          · rw [hp i z] at ei; cases ei
        subst ji
        obtain ⟨av, r1⟩ := readsAll_get (j := j) (by simpa using j1) h4 hx
        obtain ⟨aw, r2⟩ := readsAll_get (j := j) (by simpa using j2) k4 hy
        have d1 := depth_mem (List.mem_of_getElem? hx)
        have d2 := depth_mem (List.mem_of_getElem? hy)
        have := hl _ _ av aw r1 r2 (by
          have := room_in hu
          show A.units + 1 + _ < _
          omega)
        simpa using this
theorem lt_ends (ra : Reads s.heap a (.tuple xs) as) (rb : Reads s.heap b (.tuple ys) bs) (pa : PyData.plainAll xs = true) (pb : PyData.plainAll ys = true) (hu : A.units + min (PyData.depth (.tuple xs)) (PyData.depth (.tuple ys)) < cLine)
    (pre : ∀ j, j < min xs.length ys.length → pairEq xs ys j = true) : SeqAt.RcLt A s a b (decide (xs.length < ys.length)) := by
  cases ra with
  | @tuple l o vs n _ _ h1 h2 h3 h4 =>
    cases rb with
    | @tuple l' o' ws n' _ _ k1 k2 k3 k4 =>
      have e1 : vs.size = xs.length := by simpa using SeqAt.ReadsAll.length _ _ _ h4
      have e2 : ws.size = ys.length := by simpa using SeqAt.ReadsAll.length _ _ _ k4
      (simp only [PyData.depth] at hu)
      have main := tup_lt (A := A) (s := s) (e := pairEq xs ys) (r := fun _ => true) ⟨_, h1, h2, _, h3⟩ ⟨_, k1, k2, _, k3⟩ (room_here hu) (fun j j1 j2 => ?_) (fun j j1 j2 hp hf => ?_)
      · rw [List.range_eq_range', first_yes (min vs.size ws.size) 0 (fun j _ hj => pre j (by rw [← e1, ← e2]; omega)), e1, e2] at main
        exact main
      · have := SeqAt.eqAt_plainAll xs ys A.in1 s vs.toList ws.toList _ _ h4 k4 pa pb (room_in hu) j (by simpa using j1) (by simpa using j2)
        simpa using this
      · rw [pre j (by rw [← e1, ← e2]; omega)] at hf
        cases hf
end
theorem sg_zero (i j : Int) : decide (sg i j = 0) = (i == j) := by
  unfold sg
  rw [Bool.eq_iff_iff]
  simp only [decide_eq_true_eq, beq_iff_eq]
  constructor
  · intro h
    split at h <;> split at h <;> omega
  · intro h
    subst h
    rw [if_neg (by omega)]
    rfl
theorem sg_neg (i j : Int) : decide (sg i j < 0) = decide (i < j) := by
  unfold sg
  rw [Bool.eq_iff_iff]
  simp only [decide_eq_true_eq]
  constructor
  · intro h
    split at h <;> split at h <;> omega
  · intro h
    rw [if_pos h, if_neg (by omega)]
    decide
theorem pair_at {xs ys : List PyData} {j : Nat} {x y : PyData} (hx : xs[j]? = some x) (hy : ys[j]? = some y) : pairEq xs ys j = PyData.eqv x y := by
  show PyData.eqv (xs.getD j .none) (ys.getD j .none) = _
  rw [List.getD_eq_getElem?_getD, List.getD_eq_getElem?_getD, hx, hy]
  rfl
theorem cm_eqv {k : Kd} {d e : PyData} {r : Int} (h : Cm k d e r) : PyData.eqv d e = decide (r = 0) := by
  induction h with
  | unit => rfl
  | num i j =>
    rw [sg_zero]
    simp only [PyData.eqv]
  | pairN h n ih =>
    rw [decide_eq_false n] at ih ⊢
    simp only [PyData.eqv, PyData.eqvAll, ih, Bool.false_and, Bool.and_false]
  | pairE h h2 ih ih2 =>
    rw [decide_eq_true rfl] at ih
    simp only [PyData.eqv, PyData.eqvAll, ih, ih2, Bool.true_and, Bool.and_true, beq_self_eq_true]
  | left h ih => simp only [PyData.eqv, PyData.eqvAll, ih, Bool.and_true, beq_self_eq_true, Bool.true_and]
  | right h ih => simp only [PyData.eqv, PyData.eqvAll, ih, Bool.and_true, beq_self_eq_true, Bool.true_and]
  | leftRight =>
    (simp only [PyData.eqv, PyData.eqvAll])
    rw [show (("left" : Str) == "right") = false by decide, Bool.false_and]
    rfl
  | rightLeft =>
    (simp only [PyData.eqv, PyData.eqvAll])
    rw [show (("right" : Str) == "left") = false by decide, Bool.false_and]
    rfl
  | @lstN a xs ys i x y r hx hy pre h n ihp ih =>
    rw [decide_eq_false n] at ih ⊢
    show PyData.eqvAll xs ys = false
    rw [← eqvAll_eq, Bool.and_eq_false_iff]
    left
    rw [List.all_eq_false]
    have i1 := (List.getElem?_eq_some_iff.mp hx).1
    have i2 := (List.getElem?_eq_some_iff.mp hy).1
    exact ⟨i, List.mem_range.mpr (by omega), by rw [pair_at hx hy, ih]; decide⟩
  | @lstE a xs ys pre ih =>
    show PyData.eqvAll xs ys = _
    rw [← eqvAll_eq, sg_zero]
    have all : (List.range (min xs.length ys.length)).all (pairEq xs ys) = true := by
      rw [List.all_eq_true]
      intro j hj
      have lt := List.mem_range.mp hj
      have l1 : j < xs.length := by omega
      have l2 : j < ys.length := by omega
      rw [pair_at (List.getElem?_eq_getElem l1) (List.getElem?_eq_getElem l2), ih j _ _ (List.getElem?_eq_getElem l1) (List.getElem?_eq_getElem l2)]
      rfl
    rw [all, Bool.true_and]
    rw [Bool.eq_iff_iff]
    simp only [beq_iff_eq]
    omega
theorem plain_all {xs : List PyData} (h : PyData.plainAll xs = true) : ∀ {x}, x ∈ xs → x.plain = true := by
  induction xs with
  | nil => intro x hx; cases hx
  | cons y ys ih =>
    simp only [PyData.plainAll, Bool.and_eq_true] at h
    intro x hx
    rcases List.mem_cons.mp hx with z | z
    · rw [z]; exact h.1
    · exact ih h.2 z
theorem cm_lt {k : Kd} {d e : PyData} {r : Int} (h : Cm k d e r) : ∀ {A : Around} {s : Shared} {a b : Value} {as bs : List Addr}, Reads s.heap a d as → Reads s.heap b e bs → r ≠ 0 → d.plain = true → e.plain = true → A.units + min d.depth e.depth < cLine → SeqAt.RcLt A s a b (decide (r < 0)) := by
  induction h with
  | unit => intro A s a b as bs _ _ n; exact absurd rfl n
  | num i j =>
    intro A s a b as bs ra rb n _ _ _
    cases ra
    cases rb
    rw [sg_neg]
    intro prog w E Q hq
    exact HT.rcLt_int A s i _ j _ prog w E Q hq
  | @pairN ka kb x y x' y' r h n ih =>
    intro A s a b as bs ra rb n pa pb hu
    have e0 := cm_eqv h
    rw [decide_eq_false n] at e0
    have pa' := pa
    have pb' := pb
    simp only [PyData.plain] at pa' pb'
    refine lt_first ra rb pa' pb' hu (i := 1) rfl rfl (fun j hj => ?_) e0 fun v w av aw r1 r2 hu2 => ih r1 r2 n (plain_all pa' (by simp)) (plain_all pb' (by simp)) hu2
    obtain rfl : j = 0 := by omega
    rw [pair_at rfl rfl]
    simp only [PyData.eqv, beq_self_eq_true]
  | @pairE ka kb x y x' y' r h h2 ih ih2 =>
    intro A s a b as bs ra rb n pa pb hu
    have e0 := cm_eqv h2
    rw [decide_eq_false n] at e0
    have e1 := cm_eqv h
    have pa' := pa
    have pb' := pb
    simp only [PyData.plain] at pa' pb'
    refine lt_first ra rb pa' pb' hu (i := 2) rfl rfl (fun j hj => ?_) e0 fun v w av aw r1 r2 hu2 => ih2 r1 r2 n (plain_all pa' (by simp)) (plain_all pb' (by simp)) hu2
    rcases (show j = 0 ∨ j = 1 by omega) with rfl | rfl
    · rw [pair_at rfl rfl]
      simp only [PyData.eqv, beq_self_eq_true]
    · rw [pair_at rfl rfl]
      exact e1
  | @left ka kb x x' r h ih =>
    intro A s a b as bs ra rb n pa pb hu
    have e0 := cm_eqv h
    rw [decide_eq_false n] at e0
    have pa' := pa
    have pb' := pb
    simp only [PyData.plain] at pa' pb'
    refine lt_first ra rb pa' pb' hu (i := 1) rfl rfl (fun j hj => ?_) e0 fun v w av aw r1 r2 hu2 => ih r1 r2 n (plain_all pa' (by simp)) (plain_all pb' (by simp)) hu2
    obtain rfl : j = 0 := by omega
    rw [pair_at rfl rfl]
    simp only [PyData.eqv, beq_self_eq_true]
  | @right ka kb x x' r h ih =>
    intro A s a b as bs ra rb n pa pb hu
    have e0 := cm_eqv h
    rw [decide_eq_false n] at e0
    have pa' := pa
    have pb' := pb
    simp only [PyData.plain] at pa' pb'
    refine lt_first ra rb pa' pb' hu (i := 1) rfl rfl (fun j hj => ?_) e0 fun v w av aw r1 r2 hu2 => ih r1 r2 n (plain_all pa' (by simp)) (plain_all pb' (by simp)) hu2
    obtain rfl : j = 0 := by omega
    rw [pair_at rfl rfl]
    simp only [PyData.eqv, beq_self_eq_true]
  | leftRight =>
    intro A s a b as bs ra rb n pa pb hu
    have pa' := pa
    have pb' := pb
    simp only [PyData.plain] at pa' pb'
    refine lt_first ra rb pa' pb' hu (i := 0) rfl rfl (fun j hj => absurd hj (Nat.not_lt_zero j)) (by simp only [PyData.eqv]; decide) fun v w av aw r1 r2 hu2 => ?_
    cases r1
    cases r2
    intro prog w E Q hq
    refine DT.rcLt_str _ s _ _ _ _ prog w E Q ?_
    have : decide ((("left" : Str)).cps.toList < (("right" : Str)).cps.toList) = decide ((-1 : Int) < 0) := by decide +kernel
    rw [this]
    exact hq
  | rightLeft =>
    intro A s a b as bs ra rb n pa pb hu
    have pa' := pa
    have pb' := pb
    simp only [PyData.plain] at pa' pb'
    refine lt_first ra rb pa' pb' hu (i := 0) rfl rfl (fun j hj => absurd hj (Nat.not_lt_zero j)) (by simp only [PyData.eqv]; decide) fun v w av aw r1 r2 hu2 => ?_
    cases r1
    cases r2
    intro prog w E Q hq
    refine DT.rcLt_str _ s _ _ _ _ prog w E Q ?_
    have : decide ((("right" : Str)).cps.toList < (("left" : Str)).cps.toList) = decide ((1 : Int) < 0) := by decide +kernel
    rw [this]
    exact hq
  | @lstN ka xs ys i x y r hx hy pre h n ihp ih =>
    intro A s a b as bs ra rb n pa pb hu
    have e0 := cm_eqv h
    rw [decide_eq_false n] at e0
    have pa' := pa
    have pb' := pb
    simp only [PyData.plain] at pa' pb'
    refine lt_first ra rb pa' pb' hu hx hy (fun j hj => ?_) e0 fun v w av aw r1 r2 hu2 => ih r1 r2 n (plain_all pa' (List.mem_of_getElem? hx)) (plain_all pb' (List.mem_of_getElem? hy)) hu2
    have l1 := (List.getElem?_eq_some_iff.mp hx).1
    have l2 := (List.getElem?_eq_some_iff.mp hy).1
    have g1 : j < xs.length := by omega
    have g2 : j < ys.length := by omega
    rw [pair_at (List.getElem?_eq_getElem g1) (List.getElem?_eq_getElem g2)]
    exact cm_eqv (pre j _ _ hj (List.getElem?_eq_getElem g1) (List.getElem?_eq_getElem g2))
  | @lstE ka xs ys pre ih =>
    intro A s a b as bs ra rb n pa pb hu
    have pa' := pa
    have pb' := pb
    simp only [PyData.plain] at pa' pb'
    have main := lt_ends ra rb pa' pb' hu fun j hj => by
      have g1 : j < xs.length := by omega
      have g2 : j < ys.length := by omega
      rw [pair_at (List.getElem?_eq_getElem g1) (List.getElem?_eq_getElem g2)]
      exact cm_eqv (pre j _ _ (List.getElem?_eq_getElem g1) (List.getElem?_eq_getElem g2))
    rw [sg_neg]
    have e : decide ((xs.length : Int) < (ys.length : Int)) = decide (xs.length < ys.length) := by
      rw [Bool.eq_iff_iff]
      simp only [decide_eq_true_eq]
      omega
    rw [e]
    exact main
end KB
namespace KB
open PySem L2 PySem.Spec PyProof.Rows
theorem plainAll_of : ∀ {xs : List PyData}, (∀ x ∈ xs, x.plain = true) → PyData.plainAll xs = true
  | [], _ => by simp only [PyData.plainAll]
  | x :: xs, h => by
    simp only [PyData.plainAll, Bool.and_eq_true]
    exact ⟨h x List.mem_cons_self, plainAll_of fun y hy => h y (List.mem_cons_of_mem _ hy)⟩
theorem vv_plain {N : Nat} {k : Kd} {d : PyData} (h : VV N k d) : d.plain = true := by
  induction h with
  | num i _ => simp only [PyData.plain]
  | unit => simp only [PyData.plain, PyData.plainAll]
  | lst hl h ih =>
    simp only [PyData.plain]
    exact plainAll_of ih
  | pair hx hy ihx ihy => simp only [PyData.plain, PyData.plainAll, ihx, ihy, Bool.and_self]
  | left hx ih => simp only [PyData.plain, PyData.plainAll, ih, Bool.and_self]
  | right hx ih => simp only [PyData.plain, PyData.plainAll, ih, Bool.and_self]
theorem depthAll_le {n : Nat} : ∀ {xs : List PyData}, (∀ x ∈ xs, x.depth ≤ n) → PyData.depthAll xs ≤ n
  | [], _ => by simp only [PyData.depthAll]; exact Nat.zero_le _
  | x :: xs, h => by
    simp only [PyData.depthAll]
    exact Nat.max_le.mpr ⟨h x List.mem_cons_self, depthAll_le fun y hy => h y (List.mem_cons_of_mem _ hy)⟩
theorem vv_depth {N : Nat} {k : Kd} {d : PyData} (h : VV N k d) : d.depth ≤ k.dep := by
  induction h with
  | num i _ => simp only [PyData.depth]; exact Nat.zero_le _
  | unit => simp only [PyData.depth, PyData.depthAll]; exact Nat.le_refl 1
  | @lst a xs hl h ih =>
    simp only [PyData.depth]
    exact Nat.succ_le_succ (depthAll_le ih)
  | @pair a b x y hx hy ihx ihy =>
    have e : (Kd.pair a b).dep = max a.dep b.dep + 1 := rfl
    (simp only [PyData.depth, PyData.depthAll])
    omega
  | @left a b x hx ih =>
    have e : (Kd.eith a b).dep = max a.dep b.dep + 1 := rfl
    (simp only [PyData.depth, PyData.depthAll])
    omega
  | @right a b x hx ih =>
    have e : (Kd.eith a b).dep = max a.dep b.dep + 1 := rfl
    (simp only [PyData.depth, PyData.depthAll])
    omega
theorem int_long {i : Int} {c : Nat} (hc : c ≤ 10000) (h : i.natAbs ≤ bg + c) : sz (.int i) ≤ 312 := by
  have b : i.natAbs < 10 ^ 311 := Nat.lt_of_le_of_lt (Nat.le_trans h (Nat.add_le_add_left hc _)) (by unfold bg; decide +kernel)
  have e := int_text_length_le10 (k := 311) (by decide) b
  rw [sz]
  show (PyData.int i).shown.length ≤ 312
  rw [PyData.shown_int]
  show (Str.ofString (toString i)).length ≤ 312
  rw [PySem.ofString_length]
  exact e
theorem int_shows {i : Int} {c : Nat} (hc : c ≤ 10000) (h : i.natAbs ≤ bg + c) : (PyData.int i).showable = true := by
  have b : i.natAbs < 2 ^ 1100 := Nat.lt_of_le_of_lt (Nat.le_trans h (Nat.add_le_add_left hc _)) (by unfold bg; decide +kernel)
  (simp only [PyData.showable, decide_eq_true_eq])
  have := PySem.Flt.log2_lt_of (k := 1100) (by decide) b
  omega
def BZ (M : Nat) : Nat → Nat
  | 0 => 320
  | n + 1 => (BZ M n + 2) * M + 20
theorem BZ_ge (M : Nat) (h : 4 ≤ M) : ∀ n, 320 ≤ BZ M n
  | 0 => Nat.le_refl _
  | n + 1 => by
    have := BZ_ge M h n
    unfold BZ
    have : (BZ M n + 2) * 1 ≤ (BZ M n + 2) * M := Nat.mul_le_mul_left _ (by omega)
    omega
theorem BZ_mono {M : Nat} (h : 4 ≤ M) : ∀ {a b : Nat}, a ≤ b → BZ M a ≤ BZ M b := by
  intro a b ab
  induction ab with
  | refl => exact Nat.le_refl _
  | @step b _ ih =>
    show BZ M a ≤ (BZ M b + 2) * M + 20
    have : (BZ M b + 2) * 1 ≤ (BZ M b + 2) * M := Nat.mul_le_mul_left _ (by omega)
    omega
theorem szA_le {L : Nat} : ∀ {xs : List PyData}, (∀ x ∈ xs, sz x ≤ L) → szA xs ≤ (L + 2) * xs.length
  | [], _ => by rw [szA]; exact Nat.zero_le _
  | x :: xs, h => by
    have h1 := h x List.mem_cons_self
    have h2 := szA_le fun y hy => h y (List.mem_cons_of_mem (a := y) x hy)
    rw [szA, List.length_cons, Nat.mul_add]
    omega
theorem sz_word (x : Str) (h : (PyData.str x).shown.length ≤ 10) : sz (.str x) ≤ 10 := by rw [sz]; exact h
theorem vv_sz {N M : Nat} (hN : 10 * N ≤ 10000) (h4 : 4 ≤ M) (hM : N ≤ M) {k : Kd} {d : PyData} (h : VV N k d) : sz d ≤ BZ M (k.dep - 1) := by
  induction h with
  | num i hi => exact Nat.le_trans (int_long hN hi) (Nat.le_trans (by decide) (BZ_ge M h4 _))
  | unit => exact Nat.le_trans (by decide) (BZ_ge M h4 _)
  | @lst a xs hl h ih =>
    have p := Kd.dep_pos a
    have e : BZ M ((Kd.lst a).dep - 1) = (BZ M (a.dep - 1) + 2) * M + 20 := by
      rw [show (Kd.lst a).dep - 1 = (a.dep - 1) + 1 by show a.dep + 1 - 1 = _; omega]
      rfl
    have h1 := szA_le ih
    have h2 : (BZ M (a.dep - 1) + 2) * xs.length ≤ (BZ M (a.dep - 1) + 2) * M := Nat.mul_le_mul_left _ (Nat.le_trans hl hM)
    rw [e, sz]
    omega
  | @pair a b x y hx hy ihx ihy =>
    have p := Kd.dep_pos a
    have e : BZ M ((Kd.pair a b).dep - 1) = (BZ M (max a.dep b.dep - 1) + 2) * M + 20 := by
      rw [show (Kd.pair a b).dep - 1 = (max a.dep b.dep - 1) + 1 by show max a.dep b.dep + 1 - 1 = _; omega]
      rfl
    have w := sz_word "pair" (by decide +kernel)
    have m1 := BZ_mono h4 (show a.dep - 1 ≤ max a.dep b.dep - 1 by omega)
    have m2 := BZ_mono h4 (show b.dep - 1 ≤ max a.dep b.dep - 1 by omega)
    have h2 : (BZ M (max a.dep b.dep - 1) + 2) * 4 ≤ (BZ M (max a.dep b.dep - 1) + 2) * M := Nat.mul_le_mul_left _ h4
    rw [e, sz, szA, szA, szA, szA]
    omega
  | @left a b x hx ih =>
    have p := Kd.dep_pos a
    have e : BZ M ((Kd.eith a b).dep - 1) = (BZ M (max a.dep b.dep - 1) + 2) * M + 20 := by
      rw [show (Kd.eith a b).dep - 1 = (max a.dep b.dep - 1) + 1 by show max a.dep b.dep + 1 - 1 = _; omega]
      rfl
    have w := sz_word "left" (by decide +kernel)
    have m1 := BZ_mono h4 (show a.dep - 1 ≤ max a.dep b.dep - 1 by omega)
    have h2 : (BZ M (max a.dep b.dep - 1) + 2) * 4 ≤ (BZ M (max a.dep b.dep - 1) + 2) * M := Nat.mul_le_mul_left _ h4
    rw [e, sz, szA, szA, szA]
    omega
  | @right a b x hx ih =>
    have p := Kd.dep_pos a
    have e : BZ M ((Kd.eith a b).dep - 1) = (BZ M (max a.dep b.dep - 1) + 2) * M + 20 := by
      rw [show (Kd.eith a b).dep - 1 = (max a.dep b.dep - 1) + 1 by show max a.dep b.dep + 1 - 1 = _; omega]
      rfl
    have w := sz_word "right" (by decide +kernel)
    have m1 := BZ_mono h4 (show b.dep - 1 ≤ max a.dep b.dep - 1 by omega)
    have h2 : (BZ M (max a.dep b.dep - 1) + 2) * 4 ≤ (BZ M (max a.dep b.dep - 1) + 2) * M := Nat.mul_le_mul_left _ h4
    rw [e, sz, szA, szA, szA]
    omega
mutual
def IB (B : Nat) : PyData → Prop
  | .int i => i.natAbs ≤ B
  | .tuple ds => IBA B ds
  | .list ds => IBA B ds
  | .none => True
  | .bool _ => True
  | .str _ => True
  | .dict _ => True
def IBA (B : Nat) : List PyData → Prop
  | [] => True
  | d :: ds => IB B d ∧ IBA B ds
end
theorem iba_iff {B : Nat} : ∀ {ds : List PyData}, IBA B ds ↔ ∀ d ∈ ds, IB B d
  | [] => by simp [IBA]
  | d :: ds => by rw [IBA, iba_iff (ds := ds)]; simp
theorem ib_tup {B : Nat} {ds : List PyData} : IB B (.tuple ds) ↔ ∀ d ∈ ds, IB B d := by rw [IB]; exact iba_iff
theorem ib_lst {B : Nat} {ds : List PyData} : IB B (.list ds) ↔ ∀ d ∈ ds, IB B d := by rw [IB]; exact iba_iff
mutual
theorem IB.mono {B C : Nat} (h : B ≤ C) : ∀ {d : PyData}, IB B d → IB C d
  | .int i, q => by rw [IB] at *; omega
  | .tuple ds, q => by rw [IB] at *; exact IBA.mono h q
  | .list ds, q => by rw [IB] at *; exact IBA.mono h q
  | .none, _ => by rw [IB]; exact True.intro
  | .bool _, _ => by rw [IB]; exact True.intro
  | .str _, _ => by rw [IB]; exact True.intro
  | .dict _, _ => by rw [IB]; exact True.intro
theorem IBA.mono {B C : Nat} (h : B ≤ C) : ∀ {ds : List PyData}, IBA B ds → IBA C ds
  | [], _ => by rw [IBA]; exact True.intro
  | d :: ds, q => by rw [IBA] at *; exact ⟨IB.mono h q.1, IBA.mono h q.2⟩
end
theorem vv_ib {N : Nat} {k : Kd} {d : PyData} (h : VV N k d) : IB (bg + 10 * N) d := by
  induction h with
  | num i hi => rw [IB]; exact hi
  | unit => rw [IB, IBA]; exact True.intro
  | lst hl h ih => exact ib_tup.mpr ih
  | pair hx hy ihx ihy =>
    refine ib_tup.mpr fun d hd => ?_
    simp only [List.mem_cons, List.not_mem_nil, or_false] at hd
    rcases hd with rfl | rfl | rfl
    · rw [IB]; exact True.intro
    · exact ihx
    · exact ihy
  | left hx ih =>
    refine ib_tup.mpr fun d hd => ?_
    simp only [List.mem_cons, List.not_mem_nil, or_false] at hd
    rcases hd with rfl | rfl
    · rw [IB]; exact True.intro
    · exact ih
  | right hx ih =>
    refine ib_tup.mpr fun d hd => ?_
    simp only [List.mem_cons, List.not_mem_nil, or_false] at hd
    rcases hd with rfl | rfl
    · rw [IB]; exact True.intro
    · exact ih
def lexF (c : PyData → PyData → Int) : List PyData → List PyData → Int
  | x :: xs, y :: ys => if c x y = 0 then lexF c xs ys else c x y
  | xs, ys => sg xs.length ys.length
def cmpF : Kd → PyData → PyData → Int
  | .num, .int i, .int j => sg i j
  | .pair a b, .tuple [_, x, y], .tuple [_, x', y'] => if cmpF a x x' = 0 then cmpF b y y' else cmpF a x x'
  | .eith a b, .tuple [.str p, x], .tuple [.str q, x'] => if p = q then (if p = "left" then cmpF a x x' else cmpF b x x') else if p = "left" then -1 else 1
  | .lst a, .tuple xs, .tuple ys => lexF (cmpF a) xs ys
  | _, _, _ => 0
theorem sg_succ (a b : Nat) : sg ((a + 1 : Nat) : Int) ((b + 1 : Nat) : Int) = sg a b := by
  unfold sg
  congr 1
  · by_cases h : b < a
    · rw [if_pos (by omega), if_pos (by omega)]
    · rw [if_neg (by omega), if_neg (by omega)]
  · by_cases h : a < b
    · rw [if_pos (by omega), if_pos (by omega)]
    · rw [if_neg (by omega), if_neg (by omega)]
theorem lex_at (c : PyData → PyData → Int) : ∀ (i : Nat) (xs ys : List PyData) (x y : PyData), xs[i]? = some x → ys[i]? = some y → (∀ j x' y', j < i → xs[j]? = some x' → ys[j]? = some y' → c x' y' = 0) → c x y ≠ 0 → lexF c xs ys = c x y
  | 0, x :: xs, y :: ys, _, _, h1, h2, _, n => by
    cases h1
    cases h2
    rw [lexF, if_neg n]
  | i + 1, x :: xs, y :: ys, u, v, h1, h2, pre, n => by
    rw [lexF, if_pos (pre 0 x y (Nat.succ_pos _) rfl rfl)]
    exact lex_at c i xs ys u v h1 h2 (fun j x' y' hj e1 e2 => pre (j + 1) x' y' (Nat.succ_lt_succ hj) e1 e2) n
  | 0, [], _, _, _, h1, _, _, _ => by cases h1
  | 0, _ :: _, [], _, _, _, h2, _, _ => by cases h2
  | i + 1, [], _, _, _, h1, _, _, _ => by cases h1
  | i + 1, _ :: _, [], _, _, _, h2, _, _ => by cases h2
theorem lex_end (c : PyData → PyData → Int) : ∀ (xs ys : List PyData), (∀ (j : Nat) (x' y' : PyData), xs[j]? = some x' → ys[j]? = some y' → c x' y' = 0) → lexF c xs ys = sg xs.length ys.length
  | x :: xs, y :: ys, pre => by
    rw [lexF, if_pos (pre 0 x y rfl rfl), lex_end c xs ys fun j x' y' e1 e2 => pre (j + 1) x' y' e1 e2, List.length_cons, List.length_cons, sg_succ]
  | [], ys, _ => by rw [lexF]; intro x xs y ys e; cases e
  | x :: xs, [], _ => by rw [lexF]; intro x xs y ys _ e; cases e
theorem cm_fun {k : Kd} {d e : PyData} {r : Int} (h : Cm k d e r) : r = cmpF k d e := by
  induction h with
  | unit => rfl
  | num i j => rfl
  | @pairN a b x y x' y' r h n ih =>
    show r = if cmpF a x x' = 0 then cmpF b y y' else cmpF a x x'
    rw [← ih, if_neg n]
  | @pairE a b x y x' y' r h h2 ih ih2 =>
    show r = if cmpF a x x' = 0 then cmpF b y y' else cmpF a x x'
    rw [← ih, if_pos rfl]
    exact ih2
  | @left a b x x' r h ih =>
    show r = if ("left" : Str) = "left" then (if ("left" : Str) = "left" then cmpF a x x' else cmpF b x x') else _
    rw [if_pos rfl, if_pos rfl]
    exact ih
  | @right a b x x' r h ih =>
    show r = if ("right" : Str) = "right" then (if ("right" : Str) = "left" then cmpF a x x' else cmpF b x x') else _
    rw [if_pos rfl, if_neg (by decide)]
    exact ih
  | @leftRight a b x x' =>
    show -1 = if ("left" : Str) = "right" then _ else if ("left" : Str) = "left" then (-1 : Int) else 1
    (rw [if_neg (by decide), if_pos rfl])
  | @rightLeft a b x x' =>
    show 1 = if ("right" : Str) = "left" then _ else if ("right" : Str) = "left" then (-1 : Int) else 1
    rw [if_neg (by decide), if_neg (by decide)]
  | @lstN a xs ys i x y r hx hy pre h n ihp ih =>
    show r = lexF (cmpF a) xs ys
    rw [lex_at (cmpF a) i xs ys x y hx hy (fun j x' y' hj e1 e2 => (ihp j x' y' hj e1 e2).symm) (by rw [← ih]; exact n)]
    exact ih
  | @lstE a xs ys pre ih =>
    show _ = lexF (cmpF a) xs ys
    rw [lex_end (cmpF a) xs ys fun j x' y' e1 e2 => (ih j x' y' e1 e2).symm]
theorem cm_one {k : Kd} {d e : PyData} {r r' : Int} (h : Cm k d e r) (h' : Cm k d e r') : r = r' := (cm_fun h).trans (cm_fun h').symm
theorem cm_range {k : Kd} {d e : PyData} {r : Int} (h : Cm k d e r) : r = -1 ∨ r = 0 ∨ r = 1 := by
  have s3 : ∀ i j : Int, sg i j = -1 ∨ sg i j = 0 ∨ sg i j = 1 := fun i j => by
    unfold sg
    split <;> split <;> first | omega | (right; right; rfl) | (left; rfl) | (right; left; rfl)
  induction h with
  | unit => exact .inr (.inl rfl)
  | num i j => exact s3 i j
  | pairN h n ih => exact ih
  | pairE h h2 ih ih2 => exact ih2
  | left h ih => exact ih
  | right h ih => exact ih
  | leftRight => exact .inl rfl
  | rightLeft => exact .inr (.inr rfl)
  | lstN hx hy pre h n ihp ih => exact ih
  | lstE pre ih => exact s3 _ _
theorem cm_ex {M N : Nat} {k : Kd} {d : PyData} (h : VV M k d) : ∀ {e : PyData}, VV N k e → ∃ r, Cm k d e r := by
  induction h with
  | num i hi =>
    intro e h2
    cases h2 with
    | num j hj => exact ⟨_, .num i j⟩
  | unit =>
    intro e h2
    cases h2 with
    | unit => exact ⟨_, .unit⟩
  | pair hx hy ihx ihy =>
    intro e h2
    cases h2 with
    | pair hx' hy' =>
      obtain ⟨r, c⟩ := ihx hx'
      by_cases z : r = 0
      · subst z
        obtain ⟨r2, c2⟩ := ihy hy'
        exact ⟨r2, .pairE c c2⟩
      · exact ⟨r, .pairN c z⟩
  | left hx ih =>
    intro e h2
    cases h2 with
    | left hx' =>
      obtain ⟨r, c⟩ := ih hx'
      exact ⟨r, .left c⟩
    | right hx' => exact ⟨_, .leftRight⟩
  | right hx ih =>
    intro e h2
    cases h2 with
    | left hx' => exact ⟨_, .rightLeft⟩
    | right hx' =>
      obtain ⟨r, c⟩ := ih hx'
      exact ⟨r, .right c⟩
  | @lst a xs hl h ih =>
    intro e h2
    cases h2 with
    | @lst _ ys hl' h' =>
      clear hl hl' h
      induction xs generalizing ys with
      | nil => exact ⟨_, .lstE fun j x' y' e1 _ => by cases e1⟩
      | cons x xs ihx =>
        cases ys with
        | nil => exact ⟨_, .lstE fun j x' y' _ e2 => by cases e2⟩
        | cons y ys =>
          obtain ⟨r, c⟩ := ih x List.mem_cons_self (h' y List.mem_cons_self)
          by_cases z : r = 0
          · subst z
            obtain ⟨r2, c2⟩ := ihx (fun u hu => ih u (List.mem_cons_of_mem _ hu)) (fun u hu => h' u (List.mem_cons_of_mem _ hu))
            have sh : ∀ (P : Nat → Prop) (j x' y'), (∀ j x' y', P j → xs[j]? = some x' → ys[j]? = some y' → Cm a x' y' 0) → (j = 0 ∨ ∃ i, j = i + 1 ∧ P i) → (x :: xs)[j]? = some x' → (y :: ys)[j]? = some y' → Cm a x' y' 0 := fun P j x' y' hp hj e1 e2 => by
              rcases hj with rfl | ⟨i, rfl, hi⟩
              · cases e1
                cases e2
                exact c
              · exact hp i x' y' hi e1 e2
            cases c2 with
            | @lstN _ _ _ i u v _ hx hy pre hc n => exact ⟨r2, .lstN (i := i + 1) hx hy (fun j x' y' hj e1 e2 => sh (· < i) j x' y' (fun j x' y' hj e1 e2 => pre j x' y' hj e1 e2) (by rcases j with _ | j; exact .inl rfl; exact .inr ⟨j, rfl, by omega⟩) e1 e2) hc n⟩
            | lstE pre => exact ⟨_, .lstE fun j x' y' e1 e2 => sh (fun _ => True) j x' y' (fun j x' y' _ e1 e2 => pre j x' y' e1 e2) (by rcases j with _ | j; exact .inl rfl; exact .inr ⟨j, rfl, trivial⟩) e1 e2⟩
          · exact ⟨r, .lstN (i := 0) rfl rfl (fun j _ _ hj => absurd hj (Nat.not_lt_zero j)) c z⟩
end KB
namespace KB
open PySem L2 PySem.Spec PyProof.Rows
section
variable {X : Cx} {n : Nat}
theorem op_eqVV (hS : SysIn X.K) (hr : Room n X.A) : OpR X (compareOp .Eq) (fun x y H Q => ∃ (F : Addr → Prop) (d e : PyData), Dt F H x d ∧ Dt F H y e ∧ d.plain = true ∧ e.plain = true ∧ d.depth ≤ 190 ∧ Q (.bl (PyData.eqv d e)) H) := by
  (intro pins s σ H x y v u Q I rx ry h)
  obtain ⟨F, d, e, hd, he, pd, pe, dd, q⟩ := h
  obtain ⟨as, r1, _⟩ := hd.reads I hS rx
  obtain ⟨bs, r2, _⟩ := he.reads I hS ry
  have room := hr.un
  have hm := Nat.min_le_left d.depth e.depth
  exact SeqAt.eq_plain r1 r2 pd pe (by omega) ⟨.bl _, H, I, rfl, q⟩
theorem op_ltVV (hS : SysIn X.K) (hr : Room n X.A) : OpR X (compareOp .Lt) (fun x y H Q => ∃ (F : Addr → Prop) (k : Kd) (d e : PyData) (r : Int), Dt F H x d ∧ Dt F H y e ∧ d.plain = true ∧ e.plain = true ∧ d.depth ≤ 190 ∧ Cm k d e r ∧ r ≠ 0 ∧ Q (.bl (decide (r < 0))) H) := by
  (intro pins s σ H x y v u Q I rx ry h)
  obtain ⟨F, k, d, e, r, hd, he, pd, pe, dd, cm, n0, q⟩ := h
  obtain ⟨as, r1, _⟩ := hd.reads I hS rx
  obtain ⟨bs, r2, _⟩ := he.reads I hS ry
  have room := hr.un
  have hm := Nat.min_le_left d.depth e.depth
  exact cm_lt cm r1 r2 n0 pd pe (by omega) X.prog X.w _ _ ⟨.bl _, H, I, rfl, q⟩
end
def spOr : Sp := fun vs H Q _ => ∃ (F : Addr → Prop) (kv ov tv : V) (k : Kd) (d e : PyData) (M N : Nat) (r : Int), vs = [kv, ov, tv] ∧ (∀ p, H p = none → F p) ∧ Dt F H kv k.d ∧ k.closed = true ∧ k.noFn = true ∧ k.dep ≤ 100 ∧ k.kz ≤ 10000 ∧ Dt F H ov d ∧ Dt F H tv e ∧ VV M k d ∧ VV N k e ∧
  sz d ≤ 10000000 ∧ sz e ≤ 10000000 ∧ Cm k d e r ∧ ∀ H', Same H H' → Q (.int r) H'
end KB
namespace KB
open PySem L2 PySem.Spec PyProof.Rows
section
variable {A : Around} {E : Value → Shared → Prop} {s : Shared} {prog : Program} {w : World}
theorem back_bounds (n : Nat) : Builtin.Slice.sliceAdjust none none (-1) (n : Int) = ((n : Int) - 1, -1) := rfl
theorem back_places (n : Nat) : Builtin.Slice.slicePlaces ((n : Int) - 1) (-1) (-1) = n := by
  (unfold Builtin.Slice.slicePlaces)
  rw [if_neg (by decide)]
  by_cases h : n = 0
  · subst h
    rfl
  · rw [if_pos (by omega), show (-(-1) : Int) = 1 by decide, Int.ediv_one]
    omega
theorem back_pick (xs : Array Value) : ((List.range xs.size).filterMap fun (k : Nat) => xs[(((xs.size : Int) - 1) + (k : Int) * (-1)).toNat]?).toArray = xs.toList.reverse.toArray := by
  have e : (fun (k : Nat) => xs[(((xs.size : Int) - 1) + (k : Int) * (-1)).toNat]?) = (fun k => xs[k]?) ∘ fun k => xs.size - 1 - k := by
    funext k
    have : (((xs.size : Int) - 1) + (k : Int) * (-1)).toNat = xs.size - 1 - k := by omega
    rw [this]
    rfl
  rw [e, ← List.filterMap_map, PySem.W.krv_range, List.filterMap_reverse, PySem.W.krv_all]
theorem back_applied {sl : Addr} {a b c : Value} {n : Nat} {Q : Int × Int × Nat → Shared → Prop} (hs : s.heap.IsSliceOf sl a b c) (pa : IsPart a none) (pb : IsPart b none) (pc : IsPart c (some (-1))) (h : Q ((n : Int) - 1, -1, n) s) : wpAny (model prog w) A (Builtin.Slice.sliceApplied (.ref sl) (pure (n : Int))) Q E s := by
  obtain ⟨o, ho, hc, hd⟩ := id hs
  (unfold Builtin.Slice.sliceApplied Builtin.Slice.sliceFields)
  refine wpAny_bind (wpAny_bind (wpAny_field ho hd (x := a) rfl (wpAny_bind (wpAny_field ho hd (x := b) rfl (wpAny_bind (wpAny_field ho hd (x := c) rfl (wpAny_pure ?_)))))))
  refine wpAny_bind (HT.slicePart_ pc ?_)
  show wpAny _ _ (if ((-1 : Int) == 0) = true then _ else _) _ _ s
  rw [if_neg (by decide)]
  refine wpAny_bind (HT.slicePart_ pa (wpAny_bind (HT.slicePart_ pb (wpAny_bind (wpAny_pure ?_)))))
  show wpAny _ _ (match Builtin.Slice.sliceAdjust none none (-1) (n : Int) with | (lo, hi) => pure (lo, (-1 : Int), Builtin.Slice.slicePlaces lo hi (-1))) _ _ s
  rw [back_bounds n]
  show wpAny _ _ (pure ((n : Int) - 1, (-1 : Int), Builtin.Slice.slicePlaces ((n : Int) - 1) (-1) (-1))) _ _ s
  rw [back_places]
  exact wpAny_pure h
theorem back_item {t sl : Addr} {xs : Array Value} {a b c : Value} {Q : Value → Shared → Prop} (ht : IsTup s.heap t xs) (hs : s.heap.IsSliceOf sl a b c) (pa : IsPart a none) (pb : IsPart b none) (pc : IsPart c (some (-1)))
    (h : Q (.ref s.heap.objs.size) { s with heap := s.heap.push { cls := .type "tuple", data := .seq xs.toList.reverse.toArray } }) (hz : xs.size ≤ sizeLine) : wpAny (model prog w) A (getItem (.ref t) (.ref sl)) Q E s := by
  have fits : sizeOk (.seq xs.toList.reverse.toArray) := by
    show xs.toList.reverse.toArray.size ≤ sizeLine
    simpa using hz
  obtain ⟨o, ho, hc, hd⟩ := id hs
  have tS : s.TypeIs (.ref sl) "slice" := ⟨o, ho, hc⟩
  have hT := ht.typeIs
  unfold getItem
  (try with_reducible refine wpAny_holding ?_)
  (first | refine wpAny_bind (wpAny_pure ?_) | skip)
  refine wpAny_bind (wpAny_sequenceKey hT (by decide) ?_)
  refine wpAny_bind (wpAny_callSpecial?_slot (name := Str.ofString "__getitem__") hT PyProof.Rows.slot_tuple_getitem (wpAny_call_entry PyProof.Rows.slot_tuple_getitem hT entry_tuple_getitem ?_ (args_tuple_getitem _ _)))
  (show wpAny _ _ (Builtin.Tuple.tupleItemsOf (.ref t) >>= _) _ _ s)
  refine wpAny_bind (tupleItemsOf_ ht (wpAny_bind (wpAny_typeOf tS ?_)))
  rw [if_pos (by decide)]
  refine wpAny_bind (back_applied hs pa pb pc ?_)
  have no : ¬ ((((xs.size : Int) - 1) == 0 && (-1 : Int) == 1 && xs.size == xs.size) = true) := by
    rw [show ((-1 : Int) == 1) = false by decide, Bool.and_false, Bool.false_and]
    exact Bool.false_ne_true
  show wpAny _ _ (if (((xs.size : Int) - 1) == 0 && (-1 : Int) == 1 && xs.size == xs.size) = true then _ else _) _ _ s
  rw [if_neg no, back_pick]
  first
    | exact wpAny_bind (m := Builtin.Tuple.tupleExact _) (wpAny_newObj_type (wpAny_pure ⟨_, rfl, wpAny_pure h⟩) fits)
    | exact wpAny_bind (m := Builtin.Tuple.tupleExact _) (wpAny_newObj_type (wpAny_bind (wpAny_pure (wpAny_pure ⟨_, rfl, wpAny_pure h⟩))) fits)
    | exact wpAny_bind (wpAny_bind (m := Builtin.Tuple.tupleExact _) (wpAny_newObj_type (wpAny_pure (wpAny_pure ⟨_, rfl, wpAny_pure h⟩)) fits))
    | exact wpAny_bind (wpAny_bind (m := Builtin.Tuple.tupleExact _) (wpAny_newObj_type (wpAny_pure ⟨_, rfl, wpAny_pure h⟩) fits))
end
def tRevT (K : PySem.W.Frag) (te : TE) : TE := fun σ H Q => te σ H fun x H1 => ∃ a xs, x = .ref a ∧ SqT K H1 a xs ∧ ∀ p, H1 p = none → Q (.ref p) (upd H1 p (.tup xs.reverse))
theorem pe_revT {X : Cx} {e : Expr} {te : TE} {k : Nat} {p1 p2 p3 pos : Pos} (he : PE X e te) : PE X (.Subscript e (.Slice none none (some (.UnaryOp .USub (.Constant (.int 1) k p1) p2)) p3) pos) (tRevT X.K te) := by
  refine ⟨fun pins s σ H Q I h => Subscript_ (thn (he.run pins s σ H _ I h) fun v s1 ⟨x, H1, I1, r1, a, xs, ex, hx, q⟩ => ?_)⟩
  subst ex
  cases r1
  have step : PO X (some (.UnaryOp .USub (.Constant (.int 1) k p1) p2)) (tPart (tUn (rU fun i => .int (-i)) (tC (.int 1)))) := po_some (pe_un un_neg pe_int)
  (refine wpAny_Slice (thn (po_none.run pins s1 σ H1 (fun o H2 => o = none ∧ H2 = H1) I1 ⟨rfl, rfl⟩) fun vl s2 ⟨l, H2, I2, pl, el, e2⟩ => ?_))
  subst el e2
  (refine thn (po_none.run pins s2 σ H2 (fun o H3 => o = none ∧ H3 = H2) I2 ⟨rfl, rfl⟩) fun vu s3 ⟨u, H3, I3, pu, eu, e3⟩ => ?_)
  subst eu e3
  refine thn (step.run pins s3 σ H3 (fun o H4 => o = some (-1) ∧ H4 = H3) I3 ⟨1, rfl, -1, rfl, rfl, rfl⟩) fun vs s4 ⟨o, H4, I4, ps, eo, e4⟩ => ?_
  subst eo e4
  (have I5 : Inv X pins σ H4 { s4 with heap := s4.heap.push { cls := .type "slice", data := .fields #[vl, vu, vs] } } := I4.kept (t' := s4.toks) fun b ob q => Heap.get?_push_of_some _ q)
  obtain ⟨its, r, ht, hz⟩ := I5.tuple hx
  have len := r.length
  (show wpAny (model X.prog X.w) X.A (subscriptTail e (.Slice none none (some (.UnaryOp .USub (.Constant (.int 1) k p1) p2)) p3) (.ref a) (.ref s4.heap.objs.size)) (EP X pins σ Q) X.xe { s4 with heap := s4.heap.push { cls := .type "slice", data := .fields #[vl, vu, vs] } })
  refine tail_any (ops := [.ref a, .ref s4.heap.objs.size]) ht.typeIs PyProof.Rows.slot_tuple_getitem.lookup ?_ (by with_unfolding_all rfl)
  refine back_item ht (Heap.IsSliceOf.new _ vl vu vs) pl pu ps ?_ (by rw [List.size_toArray]; omega)
  refine ⟨.ref _, _, I5.laid (t' := s4.toks) (o := .tup xs.reverse) (fun b ob q => Heap.get?_push_of_some _ q) (Nat.le_refl _) ?_, rfl, q _ (I5.hok.fresh (Nat.le_refl _))⟩
  refine ⟨by rw [List.length_reverse]; exact hz, _, r.reverse, ?_⟩
  exact IsTup.new _ _
end KB
namespace KB
open PySem L2 PySem.Spec PyProof.Rows
structure Bt (B : Nat) (d e : PyData) : Prop where
  sh : e.showable = true
  dp : e.depth ≤ d.depth + 4
  ln : sz e ≤ 2 * sz d + 400
  ib : IB (B + 1) e
theorem showAll_iff : ∀ {ds : List PyData}, PyData.showableAll ds = true ↔ ∀ x ∈ ds, x.showable = true
  | [] => by simp [PyData.showableAll]
  | d :: ds => by simp only [PyData.showableAll, Bool.and_eq_true, showAll_iff (ds := ds), List.mem_cons, forall_eq_or_imp]
theorem sh_tup {ds : List PyData} : (PyData.tuple ds).showable = true ↔ ∀ x ∈ ds, x.showable = true := by
  simp only [PyData.showable]
  exact showAll_iff
theorem sh_lst {ds : List PyData} : (PyData.list ds).showable = true ↔ ∀ x ∈ ds, x.showable = true := by
  simp only [PyData.showable]
  exact showAll_iff
theorem dp_tup {ds : List PyData} {n : Nat} (h : ∀ x ∈ ds, x.depth ≤ n) : (PyData.tuple ds).depth ≤ n + 1 := by
  simp only [PyData.depth]
  exact Nat.succ_le_succ (depthAll_le h)
theorem dp_lst {ds : List PyData} {n : Nat} (h : ∀ x ∈ ds, x.depth ≤ n) : (PyData.list ds).depth ≤ n + 1 := by
  simp only [PyData.depth]
  exact Nat.succ_le_succ (depthAll_le h)
theorem dp_mem {ds : List PyData} {x : PyData} (h : x ∈ ds) : x.depth + 1 ≤ (PyData.tuple ds).depth := by
  simp only [PyData.depth]
  exact Nat.succ_le_succ (depth_mem h)
theorem sz_tup (ds : List PyData) : sz (.tuple ds) = szA ds + 3 := by rw [sz]
theorem sz_lst (ds : List PyData) : sz (.list ds) = szA ds + 3 := by rw [sz]
theorem szA_one (d : PyData) : szA [d] = sz d + 2 := by rw [szA, szA, Nat.add_zero]
theorem szA_split (ds : List PyData) (i : Nat) : szA (ds.take i) + szA (ds.drop i) = szA ds := by
  rw [← szA_app, List.take_append_drop]
theorem szA_at {ds : List PyData} {i : Nat} {d : PyData} (h : ds[i]? = some d) : szA (ds.take i) + (sz d + 2) + szA (ds.drop (i + 1)) = szA ds := by
  (obtain ⟨hi, e⟩ := List.getElem?_eq_some_iff.mp h)
  have := szA_split ds i
  rw [List.drop_eq_getElem_cons hi, szA, e] at this
  omega
theorem szA_rev : ∀ ds : List PyData, szA ds.reverse = szA ds
  | [] => rfl
  | d :: ds => by
    rw [List.reverse_cons, szA_app, szA_rev ds, szA_one, szA]
    omega
theorem mem_take {ds : List PyData} {i : Nat} {x : PyData} (h : x ∈ ds.take i) : x ∈ ds := List.mem_of_mem_take h
theorem mem_drop {ds : List PyData} {i : Nat} {x : PyData} (h : x ∈ ds.drop i) : x ∈ ds := List.mem_of_mem_drop h
section
variable {B : Nat} {ds : List PyData} {i : Nat} {d e : PyData}
theorem bt_row {es : List PyData} (hs : (PyData.tuple ds).showable = true) (hb : IB B (.tuple ds)) (hn : ds ≠ []) (h : ∀ x ∈ es, x ∈ ds ∨ (x.showable = true ∧ x.depth ≤ 3 ∧ IB (B + 1) x)) (hz : szA es + 3 ≤ 2 * (szA ds + 3) + 400) :
    Bt B (.tuple ds) (.tuple es) := by
  obtain ⟨x0, hx0⟩ := List.exists_mem_of_ne_nil ds hn
  have one := dp_mem hx0
  refine ⟨sh_tup.mpr fun x hx => (h x hx).elim (sh_tup.mp hs x) (·.1), ?_, ?_, ib_tup.mpr fun x hx => (h x hx).elim (fun m => (ib_tup.mp hb x m).mono (Nat.le_succ B)) (·.2.2)⟩
  · have : (PyData.tuple es).depth ≤ ((PyData.tuple ds).depth + 3) + 1 := dp_tup fun x hx => (h x hx).elim (fun m => by have := dp_mem m; omega) fun q => by omega
    exact this
  · rw [sz_tup, sz_tup]
    exact hz
theorem bt_lst (hs : (PyData.tuple ds).showable = true) (hb : IB B (.tuple ds)) : Bt B (.tuple ds) (.list ds) := by
  refine ⟨sh_lst.mpr (sh_tup.mp hs), ?_, ?_, ib_lst.mpr fun x hx => (ib_tup.mp hb x hx).mono (Nat.le_succ B)⟩
  · simp only [PyData.depth]
    omega
  · rw [sz_lst, sz_tup]
    omega
theorem bt_at (hs : (PyData.tuple ds).showable = true) (hb : IB B (.tuple ds)) (hd : ds[i]? = some d) (h : Bt B d e) : Bt B (.tuple ds) (.tuple (ds.take i ++ [e] ++ ds.drop (i + 1))) := by
  have md := List.mem_of_getElem? hd
  have dd := dp_mem md
  have cas : ∀ x ∈ ds.take i ++ [e] ++ ds.drop (i + 1), x ∈ ds ∨ x = e := fun x hx => by
    (rcases (List.mem_append.mp hx) with hx | hx)
    · (rcases (List.mem_append.mp hx) with hx | hx)
      · exact .inl (mem_take hx)
      · exact .inr (List.mem_singleton.mp hx)
    · exact .inl (mem_drop hx)
  refine ⟨sh_tup.mpr fun x hx => (cas x hx).elim (sh_tup.mp hs x) fun z => by rw [z]; exact h.sh, ?_, ?_, ib_tup.mpr fun x hx => (cas x hx).elim (fun m => (ib_tup.mp hb x m).mono (Nat.le_succ B)) fun z => by rw [z]; exact h.ib⟩
  · have dp := h.dp
    have : (PyData.tuple (ds.take i ++ [e] ++ ds.drop (i + 1))).depth ≤ ((PyData.tuple ds).depth + 3) + 1 := dp_tup fun x hx => (cas x hx).elim (fun m => by have := dp_mem m; omega) fun z => by rw [z]; omega
    exact this
  · have z1 := szA_at hd
    have z2 := h.ln
    rw [sz_tup, sz_tup, szA_app, szA_app, szA_one]
    omega
theorem Bt.small (hs : e.showable = true) (hd : e.depth ≤ 4) (hz : sz e ≤ 400) (hb : IB (B + 1) e) : Bt B d e := ⟨hs, by omega, by omega, hb⟩
end
def Ch (d : PyData) : List (PyData × Nat) → PyData → Prop
  | [], x => x = d
  | (u, a) :: rp, x => (∃ us, u = .tuple us ∧ us[a]? = some x) ∧ Ch d rp u
def pD (p : PyData × Nat) : PyData := .tuple [p.1, .int (p.2 : Int)]
theorem DtA.reverse {F : Addr → Prop} {H : Hp} : ∀ {vs : List V} {ds : List PyData}, DtA F H vs ds → DtA F H vs.reverse ds.reverse
  | _, _, .nil => .nil
  | _, _, .cons h r => by
    (rw [List.reverse_cons, List.reverse_cons])
    exact r.reverse.append (.cons h .nil)
theorem ch_ok {B : Nat} {d : PyData} (hs : d.showable = true) (hb : IB B d) : ∀ {rp : List (PyData × Nat)} {x : PyData}, Ch d rp x → x.showable = true ∧ IB B x ∧ sz x ≤ sz d
  | [], x, h => by
    have e : x = d := h
    subst e
    exact ⟨hs, hb, Nat.le_refl _⟩
  | (u, a) :: rp, x, ⟨⟨us, e, hx⟩, h⟩ => by
    obtain ⟨h1, h2, h3⟩ := ch_ok hs hb h
    subst e
    have m := List.mem_of_getElem? hx
    refine ⟨sh_tup.mp h1 x m, ib_tup.mp h2 x m, ?_⟩
    have := szA_mem m
    rw [sz_tup] at h3
    omega
theorem for_rangeB {lo : Int} {n : Nat} {g : TG} {tb : TS} {D : Ends} {σ : L2.St} {H : Hp} (Pv : Nat → L2.St → Hp → Prop) (h0 : Pv 0 σ H) (hd : ∀ i σ H, i ≤ n → Pv i σ H → D.nx σ H)
    (hs : (∀ i σ H, i ≤ n → Pv i σ H → D.nx σ H) → ∀ i σ H, i < n → Pv i σ H → g (.int (lo + i)) σ H fun σ2 H2 => tb { D with nx := Pv (i + 1), ct := Pv (i + 1), bk := D.nx } σ2 H2) : ∃ W : Nat → Nat → L2.St → Hp → Prop, (∃ m, W 0 m σ H) ∧ ∀ i m σ H, W i m σ H →
      ((Itr lo n).stop i H ∧ D.nx σ H) ∨ ((Itr lo n).go i H ∧ ∃ N : L2.St → Hp → Prop, (∀ σ' H', N σ' H' → ∃ m', m' < m ∧ W (i + 1) m' σ' H') ∧ ∀ x H', (Itr lo n).yld i H x H' → g x σ H' fun σ2 H2 => tb { D with nx := N, ct := N, bk := D.nx } σ2 H2) :=
  for_range Pv h0 (hs hd) fun σ H => hd n σ H (Nat.le_refl _)
theorem Dt.ot {w : Addr} {H : Hp} {v : V} {d : PyData} (h : Dt (Nw w) H v d) : Dt (Ot [w]) H v d := h.move fun a o f e => ⟨fun z => f (List.mem_singleton.mp z), e⟩
theorem Dt.nwo {w : Addr} {S : List Addr} {H : Hp} {v : V} {d : PyData} (h : Dt (Ot S) H v d) (hw : w ∈ S) : Dt (Nw w) H v d := h.move fun a o f e => ⟨fun z => f (by rw [z]; exact hw), e⟩
theorem Kw.kp {w : Addr} {S : List Addr} {H H' : Hp} (k : Kw w H H') (hw : w ∈ S) : Kp S H H' := fun b o n e => k b o (fun z => n (by rw [z]; exact hw)) e
theorem Kp.kw {w : Addr} {H H' : Hp} (k : Kp [w] H H') : Kw w H H' := fun b o n e => k b o (fun z => n (List.mem_singleton.mp z)) e
end KB
namespace KB
open PySem L2 PySem.Spec PyProof.Rows
def Tst (t : TT) (σ : L2.St) (H : Hp) (b : Bool) : Prop := ∀ Q : Bool → Hp → Prop, Q b H → t σ H Q
section
variable {t u : TT} {σ : L2.St} {H : Hp} {x y : Bool} {A B R : TS} {D : Ends}
theorem tst_and (ha : Tst t σ H x) (hb : x = true → Tst u σ H y) : Tst (tAnd t u) σ H (x && y) := fun Q q => ha _ (by
  cases x with
  | true => exact ifT rfl (hb rfl Q q)
  | false => exact ifF rfl q)
theorem tst_or (ha : Tst t σ H x) (hb : x = false → Tst u σ H y) : Tst (tOr t u) σ H (x || y) := fun Q q => ha _ (by
  cases x with
  | true => exact ifT rfl q
  | false => exact ifF rfl (hb rfl Q q))
theorem tst_not (ha : Tst t σ H x) : Tst (tNot t) σ H (!x) := fun Q q => ha _ q
theorem tst_lt {i : Nat} {m n : Int} (h : σ[i]? = some (some (.int m))) : Tst (tTest (tOp (rI0 fun i j => V.bl (decide (i < j))) (tVar i) (tC (V.int n)))) σ H (decide (m < n)) := fun Q q => ⟨_, h, _, _, rfl, rfl, _, rfl, q⟩
theorem tst_eq {i : Nat} {m n : Int} (h : σ[i]? = some (some (.int m))) : Tst (tTest (tOp rEq (tVar i) (tC (V.int n)))) σ H (decide (m = n)) := fun Q q => ⟨_, h, rfl, _, rfl, by
  have e : decide (V.int m = V.int n) = decide (m = n) := by
    by_cases z : m = n
    · rw [decide_eq_true z, decide_eq_true (by rw [z])]
    · rw [decide_eq_false z, decide_eq_false fun y => z (V.int.inj y)]
  rw [e]
  exact q⟩
theorem seq_if (h : Tst t σ H x) (h1 : x = true → A { D with nx := R D } σ H) (h2 : x = false → B { D with nx := R D } σ H) : tSeq (tIfS t A B) R D σ H := h _ (by
  cases x with
  | true => exact ifT rfl (h1 rfl)
  | false => exact ifF rfl (h2 rfl))
theorem one_if (h : Tst t σ H x) (h1 : x = true → A D σ H) (h2 : x = false → B D σ H) : tIfS t A B D σ H := h _ (by
  cases x with
  | true => exact ifT rfl (h1 rfl)
  | false => exact ifF rfl (h2 rfl))
end
theorem any_words {ws : List Str} {i : Nat} {v : V} (h : (ws.map V.str)[i]? = some v) : ∃ x, v = .str x ∧ x ∈ ws := by
  rw [List.getElem?_map] at h
  cases e : ws[i]? with
  | none => (rw [e] at h; cases h)
  | some x => rw [e] at h; exact ⟨x, (Option.some.inj h).symm, List.mem_of_getElem? e⟩
mutual
def ibB (B : Nat) : PyData → Bool
  | .int i => decide (i.natAbs ≤ B)
  | .tuple ds => ibBA B ds
  | .list ds => ibBA B ds
  | .none => true
  | .bool _ => true
  | .str _ => true
  | .dict _ => true
def ibBA (B : Nat) : List PyData → Bool
  | [] => true
  | d :: ds => ibB B d && ibBA B ds
end
mutual
theorem ibB_ok {B : Nat} : ∀ {d : PyData}, ibB B d = true → IB B d
  | .int i, h => by rw [IB]; rw [ibB] at h; exact of_decide_eq_true h
  | .tuple ds, h => by rw [IB]; rw [ibB] at h; exact ibBA_ok h
  | .list ds, h => by rw [IB]; rw [ibB] at h; exact ibBA_ok h
  | .none, _ => by rw [IB]; exact True.intro
  | .bool _, _ => by rw [IB]; exact True.intro
  | .str _, _ => by rw [IB]; exact True.intro
  | .dict _, _ => by rw [IB]; exact True.intro
theorem ibBA_ok {B : Nat} : ∀ {ds : List PyData}, ibBA B ds = true → IBA B ds
  | [], _ => by rw [IBA]; exact True.intro
  | d :: ds, h => by
    rw [ibBA] at h
    rw [IBA]
    obtain ⟨h1, h2⟩ := Bool.and_eq_true_iff.mp h
    exact ⟨ibB_ok h1, ibBA_ok h2⟩
end
def lenZ : PyData → Bool
  | .tuple ds => decide (ds.length = 0)
  | _ => false
theorem isTup_of {d : PyData} (h : isTup d = true) : ∃ ds, d = .tuple ds := by
  cases d with
  | tuple ds => exact ⟨ds, rfl⟩
  | _ => cases h
theorem lenZ_of {F : Addr → Prop} {H : Hp} {xs : List V} {ds : List PyData} (r : DtA F H xs ds) : lenZ (.tuple ds) = decide (V.int (xs.length : Int) = V.int 0) := by
  show decide (ds.length = 0) = _
  rw [← r.length]
  by_cases z : xs.length = 0
  · rw [decide_eq_true z, decide_eq_true (by rw [z]; rfl)]
  · rw [decide_eq_false z, decide_eq_false fun y => z (by have := V.int.inj y; omega)]
def bentW : List Str := ["pair", "either", "fun", "list", "var", "b", "d", "left", "right", "first", "plus", "call", "cons", "<="]
theorem bentW_short : (bentW.all fun x => decide (sz (.str x) ≤ 10)) = true := by decide +kernel
def spBent : Sp := fun vs H Q _ => ∃ (w : Addr) (v : V) (d : PyData) (B : Nat) (c : Int), vs = [.ref w, v] ∧ Dt (Nw w) H v d ∧ d.showable = true ∧ sz d ≤ 4000000 ∧ IB B d ∧ bg ≤ B ∧ B ≤ bg + 9000 ∧ Wl H w c ∧ c + 3 < 2 ^ 60 ∧
  ∀ (v' : V) (e : PyData) (c' : Int) (H' : Hp), Dt (Nw w) H' v' e → Bt B d e → Kw w H H' → Wl H' w c' → c' ≤ c + 3 → Q v' H'
end KB
namespace KB
open PySem L2 PySem.Spec PyProof.Rows
def spSpo : Sp := fun vs H Q _ => ∃ (w : Addr) (v : V) (d : PyData) (B : Nat) (c : Int), vs = [.ref w, v] ∧ Dt (Nw w) H v d ∧ d.showable = true ∧ sz d ≤ 4000000 ∧ IB B d ∧ bg ≤ B ∧ B ≤ bg + 9000 ∧ Wl H w c ∧ c + 11 < 2 ^ 60 ∧
  ∀ (v' : V) (e : PyData) (c' : Int) (H' : Hp), Dt (Nw w) H' v' e → Bt B d e → Kw w H H' → Wl H' w c' → c' ≤ c + 11 → Q v' H'
end KB
namespace KB
open PySem L2 PySem.Spec PyProof.Rows
def LE (F : Addr → Prop) (te : TE) (σ : L2.St) (H : Hp) (d : PyData) : Prop := ∀ H1, Same H H1 → ∀ Q : VK, (∀ v H2, Same H1 H2 → Dt F H2 v d → Q v H2) → te σ H1 Q
def LA (F : Addr → Prop) (ta : TA) (σ : L2.St) (H : Hp) (ds : List PyData) : Prop := ∀ H1, Same H H1 → ∀ Q : List V → Hp → Prop, (∀ vs H2, Same H1 H2 → DtA F H2 vs ds → Q vs H2) → ta σ H1 Q
section
variable {F : Addr → Prop} {σ : L2.St} {H : Hp} {d : PyData} {ds : List PyData} {te : TE} {ta : TA}
theorem le_var {i : Nat} {v : V} (h : σ[i]? = some (some v)) (hd : Dt F H v d) : LE F (tVar i) σ H d := fun H1 s1 Q q => ⟨_, h, q v H1 (Same.refl H1) (hd.keep s1)⟩
theorem le_str (x : Str) : LE F (tC (.str x)) σ H (.str x) := fun H1 s1 Q q => q _ H1 (Same.refl H1) (.str x)
theorem le_int (i : Int) : LE F (tC (.int i)) σ H (.int i) := fun H1 s1 Q q => q _ H1 (Same.refl H1) (.int i)
theorem la_nil : LA F tNil σ H [] := fun H1 s1 Q q => q _ H1 (Same.refl H1) .nil
theorem la_cons (h : LE F te σ H d) (r : LA F ta σ H ds) : LA F (tCons te ta) σ H (d :: ds) := fun H1 s1 Q q =>
  h H1 s1 _ fun v H2 s2 dv => r H2 (s1.trans s2) _ fun vs H3 s3 da => q _ H3 (s2.trans s3) (.cons (dv.keep s3) da)
theorem le_tup (hF : ∀ p, H p = none → F p) (h : LA F ta σ H ds) (hz : ds.length ≤ 1000) : LE F (tTup ta) σ H (.tuple ds) := fun H1 s1 Q q =>
  h H1 s1 _ fun vs H2 s2 da => ⟨Nat.le_of_lt (small1000 (by rw [da.length]; exact hz)), fun p np => q _ _ (s2.trans (Same.new np)) (layD (fun c hc => hF c ((s1.trans s2).free hc)) np da)⟩
theorem par3 {i j l : Nat} {D : Ends} {x y z : PyData} (h : LA F ta σ H [x, y, z]) (q : ∀ a b c H1, Same H H1 → Dt F H1 a x → Dt F H1 b y → Dt F H1 c z → D.nx (((σ.set i (some a)).set j (some b)).set l (some c)) H1) : tPar3 i j l ta D σ H :=
  h H (Same.refl H) _ fun vs H1 s1 da => (by
    obtain ⟨a, b, c, rfl, d1, d2, d3⟩ := da.three
    exact ⟨a, b, c, rfl, q a b c H1 s1 d1 d2 d3⟩)
end
theorem vv_show {N : Nat} (hN : 10 * N ≤ 10000) {k : Kd} {d : PyData} (h : VV N k d) : d.showable = true := by
  induction h with
  | num i hi => exact int_shows hN hi
  | unit => simp only [PyData.showable, PyData.showableAll]
  | lst hl h ih => exact sh_tup.mpr ih
  | pair hx hy ihx ihy => simp only [PyData.showable, PyData.showableAll, ihx, ihy, Bool.and_self]
  | left hx ih => simp only [PyData.showable, PyData.showableAll, ih, Bool.and_self]
  | right hx ih => simp only [PyData.showable, PyData.showableAll, ih, Bool.and_self]
structure Tw (k : Kd) (d e : PyData) (i : Nat) : Prop where
  cl : k.closed = true
  nf : k.noFn = true
  dp : k.dep ≤ i + 1
  kz : k.kz ≤ 2 * i + 1
  v1 : VV 4 k d
  v2 : VV 4 k e
  z1 : sz d ≤ 40 * i + 320
  z2 : sz e ≤ 40 * i + 320
theorem tw_lst {k : Kd} {d e : PyData} {i : Nat} (h : Tw k d e i) : Tw (.lst k) (.tuple [d]) (.tuple [e]) (i + 1) := by
  have h1 := h.dp; have h2 := h.kz; have h3 := h.z1; have h4 := h.z2
  refine ⟨h.cl, h.nf, by show k.dep + 1 ≤ _; omega, by show k.kz + 1 ≤ _; omega, .lst (by show 1 ≤ 4; decide) fun x hx => by rw [List.mem_singleton.mp hx]; exact h.v1, .lst (by show 1 ≤ 4; decide) fun x hx => by rw [List.mem_singleton.mp hx]; exact h.v2, by rw [sz_tup, szA_one]; omega, by rw [sz_tup, szA_one]; omega⟩
theorem sz_int0 : sz (.int 0) ≤ 2 := by decide +kernel
theorem sz_int1 : sz (.int 1) ≤ 2 := by decide +kernel
theorem sz_unit0 : sz (.tuple []) = 3 := by decide +kernel
theorem tw_pairN {k : Kd} {d e : PyData} {i : Nat} (h : Tw k d e i) : Tw (.pair k .num) (.tuple [.str "pair", d, .int 0]) (.tuple [.str "pair", e, .int 1]) (i + 1) := by
  have h1 := h.dp; have h2 := h.kz; have h3 := h.z1; have h4 := h.z2; have z0 := sz_int0; have z1 := sz_int1; have zw := sz_word "pair" (by decide +kernel)
  refine ⟨by show (k.closed && true) = true; rw [h.cl]; rfl, by show (k.noFn && true) = true; rw [h.nf]; rfl, by show max k.dep 1 + 1 ≤ _; omega, by show k.kz + 1 + 1 ≤ _; omega, .pair h.v1 (.num 0 (Nat.zero_le _)), .pair h.v2 (.num 1 (Nat.le_trans (by decide : 1 ≤ 10 * 4) (Nat.le_add_left _ _))), ?_, ?_⟩
  · rw [sz_tup, szA, szA, szA, szA]; omega
  · rw [sz_tup, szA, szA, szA, szA]; omega
theorem tw_pairU {k : Kd} {d e : PyData} {i : Nat} (h : Tw k d e i) : Tw (.pair .unit k) (.tuple [.str "pair", .tuple [], d]) (.tuple [.str "pair", .tuple [], e]) (i + 1) := by
  have h1 := h.dp; have h2 := h.kz; have h3 := h.z1; have h4 := h.z2; have z0 := sz_unit0; have zw := sz_word "pair" (by decide +kernel)
  refine ⟨by show (true && k.closed) = true; rw [h.cl]; rfl, by show (true && k.noFn) = true; rw [h.nf]; rfl, by show max 1 k.dep + 1 ≤ _; omega, by show 1 + k.kz + 1 ≤ _; omega, .pair .unit h.v1, .pair .unit h.v2, ?_, ?_⟩
  · rw [sz_tup, szA, szA, szA, szA]; omega
  · rw [sz_tup, szA, szA, szA, szA]; omega
theorem tw_left {k : Kd} {d e : PyData} {i : Nat} (h : Tw k d e i) : Tw (.eith k .num) (.tuple [.str "left", d]) (.tuple [.str "left", e]) (i + 1) := by
  have h1 := h.dp; have h2 := h.kz; have h3 := h.z1; have h4 := h.z2; have zw := sz_word "left" (by decide +kernel)
  refine ⟨by show (k.closed && true) = true; rw [h.cl]; rfl, by show (k.noFn && true) = true; rw [h.nf]; rfl, by show max k.dep 1 + 1 ≤ _; omega, by show k.kz + 1 + 1 ≤ _; omega, .left h.v1, .left h.v2, ?_, ?_⟩
  · rw [sz_tup, szA, szA, szA]; omega
  · rw [sz_tup, szA, szA, szA]; omega
theorem tw_right {k : Kd} {d e : PyData} {i : Nat} (h : Tw k d e i) : Tw (.eith .unit k) (.tuple [.str "right", d]) (.tuple [.str "right", e]) (i + 1) := by
  have h1 := h.dp; have h2 := h.kz; have h3 := h.z1; have h4 := h.z2; have zw := sz_word "right" (by decide +kernel)
  refine ⟨by show (true && k.closed) = true; rw [h.cl]; rfl, by show (true && k.noFn) = true; rw [h.nf]; rfl, by show max 1 k.dep + 1 ≤ _; omega, by show 1 + k.kz + 1 ≤ _; omega, .right h.v1, .right h.v2, ?_, ?_⟩
  · rw [sz_tup, szA, szA, szA]; omega
  · rw [sz_tup, szA, szA, szA]; omega
def spTow : Sp := fun vs H Q _ => ∃ (w : Addr) (c : Int), vs = [.ref w] ∧ Wl H w c ∧ c + 40 < 2 ^ 60 ∧
  ∀ (a : Addr) (kv v1 v2 : V) (k : Kd) (d e : PyData) (c' : Int) (H' : Hp), H' a = some (.tup [kv, v1, v2]) → Dt (Nw w) H' kv k.d → Dt (Nw w) H' v1 d → Dt (Nw w) H' v2 e → Tw k d e 99 → Kw w H H' → Wl H' w c' → c' ≤ c + 40 → Q (.ref a) H'
end KB
namespace KB
open PySem L2 PySem.Spec PyProof.Rows
section
variable {X : Cx} {CX : CXT} {k : Nat} {f : Addr} {fd : FuncData} {ps ks : List Str} {sp : Sp} {E : XK} {x : Str} {p pos : Pos} {kws : List Keyword} {tk : TA} {g : List Value → List Value → List Value} {gV : List V → List V → List V}
theorem pe_callK0 (F : FnOk X.prog X.w X.K X.mg X.base CX k f fd ps sp) (hr : Room k X.A) (hg : Gl X x) (hm : X.mg x = some (.ref f)) (hk : PySem.W.keepIn X.K (.ref f) = true) (hb : KBinds X.K fd ps ks g gV) (hx : Passes CX X E)
    (hkw : PK X kws tk) (hall : (backToKw pos (keywordEach kws X.env)).all (·.1.isSome) = true := by rfl) (hks : (backToKw pos (keywordEach kws X.env)).filterMap (·.1) = ks := by rfl)
    (hdb : (x == ("__debug__" : Str)) = false := by decide) (hpl : ((backTo pos (starEach [] X.env)).any (·.1) || (backToKw pos (keywordEach kws X.env)).any (·.1.isNone)) = false := by rfl) :
    PE X (.Call (.Name x p) [] kws pos) (fun σ H Q => tk σ H fun zs H2 => sp (gV [] zs) H2 Q E) :=
  ⟨fun pins s σ H Q I h => wpAny_Call_Name_kw (ld_glob I hg hm
    (PySem.W.callWith_KW0 (h₀ := X.base) I.ok.mod.kin hk hall (thn (hkw.run pos pins s σ H _ I h) fun ws s2 ⟨zs, H2, I2, rz, q2⟩ => ⟨I2.kIn, by
      rw [hks]
      exact run_fnk F hr hb hx I2 .nil rz q2⟩) hpl) hdb)⟩
theorem kb_of {K : PySem.W.Frag} {qual : Str} {params : Arguments} {body : List Stmt} {scope : Scope} (F : FunD K x qual params body scope [] [] f fd)
    (hb : ∀ (kV doc pm : Value) (an : Option Addr) (cdv ct : Value) (us ws : List Value), (g us ws).length = ps.length → bindArgs (PySem.W.fnOf x qual params body scope .none kV doc pm an cdv ct) ⟨us, ks.zip ws⟩ = pure (ps.zip (g us ws)))
    (hr : ∀ {vs : List V} {us : List Value} {zs : List V} {ws : List Value}, Vals vs us → Vals zs ws → Vals (gV vs zs) (g us ws)) : KBinds K fd ps ks g gV := by
  (obtain ⟨oc, od, dV, kV, doc, pm, an, cdv, ct, osl, rfl, lk, hcd, hD, hK⟩ := F.ex)
  (rcases hD with ⟨_, rfl⟩ | ⟨e, _⟩)
  · exact ⟨fun s us ws _ hl => .of_eq (hb kV doc pm an cdv ct us ws hl), hr⟩
  · exact absurd rfl e
end
def g3 {α : Type} (us ws : List α) : List α := match us, ws with
  | [], [k, t, o] => [k, o, t]
  | _, _ => []
def g2 {α : Type} (us ws : List α) : List α := match us, ws with
  | [], [v, k] => [k, v]
  | _, _ => []
theorem g3_rel {vs : List V} {us : List Value} {zs : List V} {ws : List Value} (r : Vals vs us) (q : Vals zs ws) : Vals (g3 vs zs) (g3 us ws) := by
  cases r with
  | cons _ _ => exact .nil
  | nil =>
    cases q with
    | nil => exact .nil
    | cons a q => cases q with
      | nil => exact .nil
      | cons b q => cases q with
        | nil => exact .nil
        | cons c q => cases q with
          | nil => exact .cons a (.cons c (.cons b .nil))
          | cons _ _ => exact .nil
theorem g2_rel {vs : List V} {us : List Value} {zs : List V} {ws : List Value} (r : Vals vs us) (q : Vals zs ws) : Vals (g2 vs zs) (g2 us ws) := by
  cases r with
  | cons _ _ => exact .nil
  | nil =>
    cases q with
    | nil => exact .nil
    | cons a q => cases q with
      | nil => exact .nil
      | cons b q => cases q with
        | nil => exact .cons b (.cons a .nil)
        | cons c q => exact .nil
def rReprL : List V → Hp → VK → Prop := fun xs H Q => ∃ (F : Addr → Prop) (v : V) (d : PyData), xs = [v] ∧ Dt F H v d ∧ d.showable = true ∧ d.depth ≤ 180 ∧ sz d ≤ 10000000 ∧ Q (.str d.shown) H
theorem call_reprL {X : Cx} {k : Nat} (hS : SysIn X.K) (hg : X.A.guards = some []) (hr : Room k X.A) : CallR X (.builtin "repr") rReprL := by
  (intro pins s σ H xs us Q I r h)
  obtain ⟨F, v, d, rfl, hd, sh, dp, zz, q⟩ := h
  have ln : d.shown.length ≤ sizeLine := Nat.le_trans (sz_shown d) (Nat.le_trans zz (by decide))
  (obtain ⟨u, rfl, ru⟩ := vals1 r)
  obtain ⟨as, rd, hn⟩ := hd.reads I hS ru
  have room := hr.un
  cases rd with
  | none =>
    simp only [PyData.shown] at q
    exact PySem.P.repr_of_none ⟨.str _, H, I.tok _, ⟨_, rfl⟩, q⟩
  | bool b =>
    simp only [PyData.shown] at q
    exact PySem.P.repr_of_bool ⟨.str _, H, I.tok _, ⟨_, rfl⟩, q⟩
  | int i t =>
    simp only [PyData.shown] at q
    exact PySem.P.repr_of_int (by simpa [PyData.showable] using sh) ⟨.str _, H, I.tok _, ⟨_, rfl⟩, q⟩
  | str x t =>
    simp only [PyData.shown] at q ln
    exact PySem.P.repr_of_str ⟨.str _, H, I.tok _, ⟨_, rfl⟩, q⟩ ln
  | list h1 h2 h3 h4 => exact repr_of_reads' (.list h1 h2 h3 h4) sh (fun _ => hn) hg (by omega) (fun _ _ e => e) (fun h' u tk k => ⟨.str _, H, I.kept k, ⟨_, rfl⟩, q⟩) ln
  | tuple h1 h2 h3 h4 => exact repr_of_reads' (.tuple h1 h2 h3 h4) sh (fun _ => hn) hg (by omega) (fun _ _ e => e) (fun h' u tk k => ⟨.str _, H, I.kept k, ⟨_, rfl⟩, q⟩) ln
  | dict h1 h2 h3 h4 h5 => exact repr_of_reads' (.dict h1 h2 h3 h4 h5) sh (fun _ => hn) hg (by omega) (fun _ _ e => e) (fun h' u tk k => ⟨.str _, H, I.kept k, ⟨_, rfl⟩, q⟩) ln
def HasG (P : Program) (w : World) (K : PySem.W.Frag) (mg : Str → Option Value) (base : Heap) (x : Str) (ps : List Str) (k : Nat) (sp : Sp) : Prop :=
  ∃ (f : Addr) (fd : FuncData), PySem.W.keepIn K (.ref f) = true ∧ mg x = some (.ref f) ∧ Binds K fd ps [] ∧ FnG P w K mg base k f fd ps sp
def spSame : Sp := fun vs H Q _ => ∃ (F : Addr → Prop) (x y : V) (d : PyData), vs = [x, y] ∧ Dt F H x d ∧ Dt F H y d ∧ d.showable = true ∧ d.depth ≤ 180 ∧ sz d ≤ 10000000 ∧ Q (.bl true) H
structure Cv (k : Kd) (d : PyData) : Prop where
  v : VV 500 k d
  z : sz d ≤ 10000000
structure Ck0 (k : Kd) : Prop where
  cl : k.closed = true
  nf : k.noFn = true
  dp : k.dep ≤ 100
  kz : k.kz ≤ 10000
def spAo : Sp := fun vs H Q _ => ∃ (F : Addr → Prop) (kv : V) (L : Addr) (b : Bool) (k : Kd) (xs : List V) (ds : List PyData), vs = [kv, .ref L, .bl b] ∧ Dt F H kv k.d ∧ Ck0 k ∧ H L = some (.lst xs) ∧ DtA F H xs ds ∧ (∀ d ∈ ds, Cv k d) ∧ ∀ H', Same H H' → Q (.bl true) H'
theorem cm_small {k : Kd} {d e : PyData} {r : Int} (h : Cm k d e r) : (PyData.int r).showable = true ∧ (PyData.int r).depth ≤ 180 ∧ sz (.int r) ≤ 10000000 := by
  rcases cm_range h with rfl | rfl | rfl
  · exact ⟨by decide +kernel, by decide +kernel, by decide +kernel⟩
  · exact ⟨by decide +kernel, by decide +kernel, by decide +kernel⟩
  · exact ⟨by decide +kernel, by decide +kernel, by decide +kernel⟩
end KB
namespace KB
open PySem L2 PySem.Spec PyProof.Rows
structure Jt (e : PyData) : Prop where
  sh : e.showable = true
  dp : e.depth ≤ 180
  z : sz e ≤ 10000000
structure Jv (k : Kd) (d : PyData) : Prop where
  v : VV 500 k d
  z : sz d ≤ 900000
theorem two_bools (b : Bool) : (PyData.list [.bool b, .bool b]).showable = true ∧ (PyData.list [.bool b, .bool b]).depth ≤ 180 ∧ sz (.list [.bool b, .bool b]) ≤ 10000000 := by
  cases b
  · exact ⟨by decide +kernel, by decide +kernel, by decide +kernel⟩
  · exact ⟨by decide +kernel, by decide +kernel, by decide +kernel⟩
def spAj : Sp := fun vs H Q _ => ∃ (w : Addr) (kv : V) (L : Addr) (k : Kd) (xs : List V) (ds : List PyData) (c : Int), vs = [.ref w, kv, .ref L] ∧ Dt (Nw w) H kv k.d ∧ Ck0 k ∧ H L = some (.lst xs) ∧ L ≠ w ∧ DtA (Nw w) H xs ds ∧ ds.length ≤ 3 ∧ (∀ d ∈ ds, Jv k d) ∧ Wl H w c ∧ c + 120 < 2 ^ 60 ∧
  ∀ (c' : Int) (H' : Hp), Kw w H H' → Wl H' w c' → c' ≤ c + 120 → Q (.bl true) H'
end KB
namespace KB
open PySem L2 PySem.Spec PyProof.Rows
theorem fnok_ex {P : Program} {w : World} {K : PySem.W.Frag} {mg : Str → Option Value} {base : Heap} {CX : CXT} {k N : Nat} {f : Addr} {fd : FuncData} {ps : List Str} {sp : Nat → Sp} (F : ∀ n, n ≤ N → FnOk P w K mg base CX k f fd ps (sp n)) :
    FnOk P w K mg base CX k f fd ps (fun vs H Q E => ∃ n, n ≤ N ∧ sp n vs H Q E) :=
  ⟨fun vs H Q E ⟨n, hn, h⟩ => (F n hn).len vs H Q E h, fun A outer s H args us vs Q E hr e0 hb hv ⟨n, hn, h⟩ => (F n hn).run A outer s H args us vs Q E hr e0 hb hv h⟩
theorem dta_map {F G : Addr → Prop} {H : Hp} : ∀ {vs : List V} {ds : List PyData}, DtA F H vs ds → (∀ d ∈ ds, ∀ v, Dt F H v d → Dt G H v d) → DtA G H vs ds
  | _, _, .nil, _ => .nil
  | _, _, .cons h r, k => .cons (k _ List.mem_cons_self _ h) (dta_map r fun d hd => k d (List.mem_cons_of_mem _ hd))
theorem vv_off {N : Nat} {F : Addr → Prop} {H : Hp} {L : Addr} {ys : List V} (hL : H L = some (.lst ys)) {k : Kd} {d : PyData} (h : VV N k d) : ∀ {v : V}, Dt F H v d → Dt (fun a => F a ∧ a ≠ L) H v d := by
  have ne : ∀ {a : Addr} {xs : List V}, H a = some (.tup xs) → a ≠ L := fun ha z => by
    rw [z, hL] at ha
    cases ha
  induction h with
  | num i hi =>
    intro v h
    rw [h.intI]
    exact .int i
  | unit =>
    intro v h
    obtain ⟨a, xs, rfl, f, ha, r⟩ := h.tupI
    cases r
    exact .tup ⟨f, ne ha⟩ ha .nil
  | lst hl h ih =>
    intro v h
    obtain ⟨a, xs, rfl, f, ha, r⟩ := h.tupI
    exact .tup ⟨f, ne ha⟩ ha (dta_map r fun d hd v hv => ih d hd hv)
  | pair hx hy ihx ihy =>
    intro v h
    obtain ⟨a, xs, rfl, f, ha, r⟩ := h.tupI
    obtain ⟨x0, x1, x2, rfl, e0, e1, e2⟩ := r.three
    rw [e0.strI] at ha
    exact .tup ⟨f, ne ha⟩ ha (.cons (.str _) (.cons (ihx e1) (.cons (ihy e2) .nil)))
  | left hx ih =>
    intro v h
    obtain ⟨a, xs, rfl, f, ha, r⟩ := h.tupI
    obtain ⟨x0, x1, rfl, e0, e1⟩ := r.two
    rw [e0.strI] at ha
    exact .tup ⟨f, ne ha⟩ ha (.cons (.str _) (.cons (ih e1) .nil))
  | right hx ih =>
    intro v h
    obtain ⟨a, xs, rfl, f, ha, r⟩ := h.tupI
    obtain ⟨x0, x1, rfl, e0, e1⟩ := r.two
    rw [e0.strI] at ha
    exact .tup ⟨f, ne ha⟩ ha (.cons (.str _) (.cons (ih e1) .nil))
theorem vv_two {N : Nat} {H : Hp} {L w : Addr} {ys : List V} (hL : H L = some (.lst ys)) {k : Kd} {d : PyData} (h : VV N k d) {v : V} (hv : Dt (Nw w) H v d) : Dt (Ot [L, w]) H v d :=
  (vv_off hL h hv).move fun a o f e => ⟨fun z => by
    (rcases (List.mem_cons.mp z) with z | z)
    · exact f.2 z
    · exact f.1 (List.mem_singleton.mp z), e⟩
theorem Dt.nwt {w : Addr} {S : List Addr} {H : Hp} {v : List V} {d : List PyData} (h : DtA (Ot S) H v d) (hw : w ∈ S) : DtA (Nw w) H v d := h.move fun a o f e => ⟨fun z => f (by rw [z]; exact hw), e⟩
theorem cut2 {a b : V} {r : List V} : cutV (a :: b :: r) none (some 2) = [a, b] := by
  unfold cutV
  rw [show ((2 : Int)) = ((2 : Nat) : Int) from rfl, HT.sIx_nat, HT.sIx_none, List.drop_zero, Nat.sub_zero, Nat.min_eq_left (by simp)]
  rfl
theorem cut1 {a : V} {r : List V} : cutV (a :: r) none (some 1) = [a] := by
  unfold cutV
  rw [show ((1 : Int)) = ((1 : Nat) : Int) from rfl, HT.sIx_nat, HT.sIx_none, List.drop_zero, Nat.sub_zero, Nat.min_eq_left (by simp)]
  rfl
theorem ck5 : ∀ n : Nat, n ≤ 5 → Ck n ≤ 126
  | 0, _ => by decide
  | 1, _ => by decide
  | 2, _ => by decide
  | 3, _ => by decide
  | 4, _ => by decide
  | 5, _ => by decide
  | n + 6, h => by omega
theorem vc5 : VC 5 ≤ 13280 := by decide
theorem vc2 : VC 2 ≤ 105 := by decide
theorem nc5 : NC 5 ≤ 4000 := by decide
theorem vl5 : VL 5 ≤ 900000 := by decide
theorem vl2 : VL 2 ≤ 5000 := by decide
theorem bz7 : BZ 7 4 ≤ 10000000 := by decide
theorem bz61 : BZ 61 2 ≤ 10000000 := by decide
theorem kz5 {k : Kd} (h : k.dep ≤ 5) : k.kz ≤ 10000 := by
  have h1 := Kd.kz_dep k
  have h2 : 2 ^ k.dep ≤ 2 ^ 5 := Nat.pow_le_pow_right (by decide) h
  have h3 : (2 : Nat) ^ 5 = 32 := by decide
  omega
def spOne : Sp := fun vs H Q _ => ∃ (w : Addr) (c : Int), vs = [.ref w] ∧ Wl H w c ∧ c + 200000 < 2 ^ 60 ∧ ∀ H' : Hp, Kw w H H' → Q (.bl true) H'
end KB
namespace J2
open PySem PySem.Spec PyProof.Rows L2 KB
def top (i : Nat) : Stmt := PySem.Challenge.pw_bykindalone_k02_whole_kinds_of_anything.main.body.getD i (.Pass ⟨0, 0, 0, 0⟩)
abbrev FnP (K : PySem.W.Frag) (x : Str) (st : Stmt) (f : Addr) (fd : FuncData) : Prop :=
  FunD K x x (defArgs st) (defBody st) (defScope st) [] [] f fd
structure Bl (K : PySem.W.Frag) (mg : Str → Option Value) : Prop where
  sys : SysIn K
  int : mg "int" = none
  abs : mg "abs" = none
  divmod : mg "divmod" = none
  len : mg "len" = none
  repr : mg "repr" = none
  isinstance : mg "isinstance" = none
  range : mg "range" = none
  tuple : mg "tuple" = none
  zip : mg "zip" = none
  min : mg "min" = none
  max : mg "max" = none
  all : mg "all" = none
  list : mg "list" = none
  str : mg "str" = none
  bool : mg "bool" = none
section
variable {K : PySem.W.Frag} {mg : Str → Option Value} {base : Heap} {P : Program} {w : World}
abbrev nDraw : List Str := ["_law_well_here", "_law_many", "_law_figure"]
theorem scDraw : FnScope nDraw ["_law_well_here", "_law_many"] (defScope (top 27)) := ⟨rfl, rfl, rfl, by decide +kernel, rfl, by decide +kernel, by decide +kernel⟩
theorem ok_draw {f : Addr} {fd : FuncData} (F : FnP K "_law_draw" (top 27) f fd) (T : Bl K mg) : FnOk P w K mg base CX0 1 f fd ["_law_well_here", "_law_many"] spDraw := by
  refine F.ok scDraw (fun vs H Q E h => ?_) (fun cdv A outer s H vs Q E hr h => ?_)
  · obtain ⟨w, k, c, rfl, _⟩ := h
    rfl
  · obtain ⟨w, k, c, rfl, ⟨n, m, z, hw, hn, hm, hm2, hc⟩, hc2, hk, hk2, q⟩ := h
    have sc := scDraw
    refine ⟨_, PSs.nox (pss_cons (ps_if (pt_cmpR op_gt (pe_ix ix_list (pv 0) pe_int (fun _ _ => rfl)) pe_int (nomark _)) (pss_cons (ps_asg (pe_callB call_divmod (by rfl) T.divmod (by decide +kernel) (pa_cons (pe_ix ix_list (pv 0) pe_int (fun _ _ => rfl)) (pa_cons (pv 1) pa_nil))) (pg_tup rfl (pgs_cons (pg_sub (pv 0) pe_int set_list) (pgs_cons (pg_name (i := 2) sc.nd rfl (Or.inl rfl)) pgs_nil)))) (pss_one (ps_ret (pv 2)))) pss_nil) (pss_cons (ps_asg (pe_op op_add (pe_ix ix_list (pv 0) pe_int (fun _ _ => rfl)) pe_int) (pg_sub (pv 0) pe_int set_list)) (pss_cons (ps_asg (pe_op op_mod (pe_callTy call_int1 (by rfl) T.int (by decide +kernel) (pa_cons (pe_op op_add (pe_op op_add (pe_op op_mul (pe_ix ix_list (pv 0) pe_int (fun _ _ => rfl)) pe_int) (pe_op op_mul (pe_op op_mul pe_int (pe_ix ix_list (pv 0) pe_int (fun _ _ => rfl))) (pe_ix ix_list (pv 0) pe_int (fun _ _ => rfl)))) pe_int) pa_nil)) pe_int) (pg_sub (pv 0) pe_int set_list)) (pss_one (ps_ret (pe_op op_mod (pe_callTy call_int1 (by rfl) T.int (by decide +kernel) (pa_cons (pe_op op_fdiv (pe_ix ix_list (pv 0) pe_int (fun _ _ => rfl)) pe_int) pa_nil)) (pv 1))))))), ?_⟩
    refine ⟨_, rfl, w, _, _, _, rfl, rfl, SqL.of hw, at0, _, _, rfl, rfl, _, rfl, ite2 (fun g => ?_) (fun g => ?_)⟩
    · have gn : 0 < n := of_decide_eq_true g
      refine ⟨_, rfl, w, _, _, _, rfl, rfl, SqL.of hw, at0, _, rfl, n, k, rfl, ⟨hk, by omega⟩, fun p hp => ?_⟩
      have nw : w ≠ p := ne_of_none hw hp
      refine ⟨p, _, rfl, SqT.of upd_same, rfl, _, _, rfl, _, rfl, w, _, 0, 0, rfl, rfl, Eq.trans (upd_ne nw) hw, rfl, _, _, rfl, ?_⟩
      refine ⟨rfl, _, rfl, ?_⟩
      refine q (n % k) c _ (Int.emod_nonneg _ (by omega)) (Int.emod_lt_of_pos _ hk) ?_ ⟨n / k, m, z, upd_same, Int.ediv_nonneg hn (by omega), hm, hm2, hc⟩ (by omega)
      exact (Kw.new hp).trans Kw.put
    · refine ⟨_, rfl, w, _, _, _, rfl, rfl, SqL.of hw, at2, _, _, rfl, rfl, _, rfl, w, _, 2, 2, rfl, rfl, hw, rfl, ?_⟩
      have h1 : upd H w (.lst [.int n, .int m, .int (c + 1), .int z]) w = some (.lst [.int n, .int m, .int (c + 1), .int z]) := upd_same
      refine ⟨_, rfl, w, _, _, _, rfl, rfl, SqL.of h1, at1, _, _, rfl, rfl, .inl ⟨by omega, by omega⟩, _, rfl, w, _, _, _, rfl, rfl, SqL.of h1, at2, _, _, rfl, rfl, .inl ⟨by decide, by decide⟩, _, rfl, w, _, _, _, rfl, rfl, SqL.of h1, at2, _, _, rfl, rfl, .inr ⟨by omega, by omega⟩, _, _, rfl, rfl, _, _, rfl, rfl, ?_⟩
      refine .inl ⟨_, rfl, _, _, rfl, rfl, (by decide : (0 : Int) < 2147483587), ?_⟩
      have x0 : 0 ≤ ((m * 39373 + 3 * (c + 1) * (c + 1) + 1) % 2147483587) := Int.emod_nonneg _ (by decide)
      have x1 : ((m * 39373 + 3 * (c + 1) * (c + 1) + 1) % 2147483587) < 2147483587 := Int.emod_lt_of_pos _ (by decide)
      refine ⟨_, rfl, w, _, 1, 1, rfl, rfl, h1, rfl, ?_⟩
      have h2 : upd (upd H w (.lst [.int n, .int m, .int (c + 1), .int z])) w (.lst [.int n, .int ((m * 39373 + 3 * (c + 1) * (c + 1) + 1) % 2147483587), .int (c + 1), .int z]) w = some (.lst [.int n, .int ((m * 39373 + 3 * (c + 1) * (c + 1) + 1) % 2147483587), .int (c + 1), .int z]) := upd_same
      refine ⟨_, rfl, w, _, _, _, rfl, rfl, SqL.of h2, at1, _, _, rfl, rfl, ⟨by decide, by decide⟩, .inl ⟨_, rfl, _, rfl, _, _, rfl, rfl, hk, ?_⟩⟩
      exact q _ (c + 1) _ (Int.emod_nonneg _ (by omega)) (Int.emod_lt_of_pos _ hk) (Kw.put.trans Kw.put) ⟨n, ((m * 39373 + 3 * (c + 1) * (c + 1) + 1) % 2147483587), z, h2, hn, x0, x1, by omega⟩ (by omega)
end
end J2
namespace J2
open PySem PySem.Spec PyProof.Rows L2 KB
section
variable {K : PySem.W.Frag} {mg : Str → Option Value} {base : Heap} {P : Program} {w : World}
abbrev nWell : List Str := ["_law_script", "_law_turn", "_law_mixed", "_law_cell", "_law_own"]
theorem scWell : FnScope nWell ["_law_script", "_law_turn"] (defScope (top 26)) := ⟨rfl, rfl, rfl, by decide +kernel, rfl, by decide +kernel, by decide +kernel⟩
theorem ok_well {f : Addr} {fd : FuncData} (F : FnP K "_law_well" (top 26) f fd) (T : Bl K mg) : FnOk P w K mg base CX0 1 f fd ["_law_script", "_law_turn"] (spWell K) := by
  refine F.ok scWell (fun vs H Q E h => ?_) (fun cdv A outer s H vs Q E hr h => ?_)
  · obtain ⟨a, ns, t, rfl, _⟩ := h
    rfl
  · obtain ⟨a, ns, t, rfl, hS, t0, t1, q⟩ := h
    have sc := scWell
    refine ⟨_, PSs.nox (pss_cons (ps_set (i := 2) sc.nd rfl (Or.inl rfl) (pe_op op_add pe_int (pe_op op_mul pe_int (pv 1)))) (pss_cons (ps_for PassesOwn.never rfl (pi_list (pe_slice sl_list (pv 0) po_none (po_some pe_int))) (pg_name (i := 3) sc.nd rfl (Or.inl rfl)) (pss_one (ps_set (i := 2) sc.nd rfl (Or.inl rfl) (pe_op op_mod (pe_callTy call_int1 (by rfl) T.int (by decide +kernel) (pa_cons (pe_op op_add (pe_op op_add (pe_op op_mul (pv 2) pe_int) (pe_op op_mod (pe_callTy call_int1 (by rfl) T.int (by decide +kernel) (pa_cons (pv 3) pa_nil)) pe_int)) pe_int) pa_nil)) pe_int)))) (pss_cons (ps_set (i := 4) sc.nd rfl (Or.inl rfl) (pe_ifExp (pt_cmpR op_lt (pv 1) (pe_callB call_len (by rfl) T.len (by decide +kernel) (pa_cons (pv 0) pa_nil)) (nomark _)) (pe_callTy call_int1 (by rfl) T.int (by decide +kernel) (pa_cons (pe_ix ix_list (pv 0) (pv 1) (fun _ _ => rfl)) pa_nil)) pe_int)) (pss_cons (ps_set (i := 2) sc.nd rfl (Or.inl rfl) (pe_op op_mod (pe_callTy call_int1 (by rfl) T.int (by decide +kernel) (pa_cons (pe_op op_add (pe_op op_add (pe_op op_mul (pv 2) pe_int) (pe_op op_mul (pe_op op_mod (pe_callTy call_int1 (by rfl) T.int (by decide +kernel) (pa_cons (pv 4) pa_nil)) pe_int) pe_int)) pe_int) pa_nil)) pe_int)) (pss_one (ps_ret (pe_lst (pa_cons (pe_ifExp (PW.pt (pw_or (pt_cmpR op_lt (pv 4) pe_int (nomark _)) (pw_or1 (pt_cmpR op_ge (pv 4) (pe_op op_pow pe_int pe_int) (nomark _))))) (pe_callB call_abs (by rfl) T.abs (by decide +kernel) (pa_cons (pv 4) pa_nil)) pe_int) (pa_cons (pv 2) (pa_cons pe_int (pa_cons pe_int pa_nil))))))))))), ?_⟩
    refine ⟨_, rfl, _, _, rfl, rfl, .inl ⟨by decide, by decide⟩, _, _, rfl, rfl, ?_⟩
    refine ⟨_, rfl, _, rfl, a, _, rfl, hS, fun p hp => ?_⟩
    have s1 : Same H (upd H p (.lst (cutV (ns.map V.int) none (some 12)))) := Same.new hp
    refine ⟨p, rfl, ⟨_, SqL.of upd_same⟩, for_list (K := K) (a := p) (xs := cutV (ns.map V.int) none (some 12)) (fun i σ H' => H' = upd H p (.lst (cutV (ns.map V.int) none (some 12))) ∧ ∃ (m : Int) (v : Option V), σ = [some (.ref a), some (.int t), some (.int m), v, none] ∧ 0 ≤ m ∧ m < 2147483587)
      ⟨rfl, _, none, rfl, by omega, by omega⟩ (fun i σ H' _ h => by rw [h.1]; exact SqL.of upd_same) ?_ ?_⟩
    · rintro i y σ H' hi ⟨rfl, m, v, rfl, m0, m1⟩
      obtain ⟨k, rfl⟩ := cut_ints ns none (some 12) y (List.mem_of_getElem? hi)
      refine ⟨_, rfl, _, _, rfl, rfl, .inl ⟨by omega, by omega⟩, _, rfl, .inl ⟨_, rfl, _, _, rfl, rfl, (by decide : (0 : Int) < 2147483629), _, _, rfl, rfl, _, _, rfl, rfl, .inl ⟨_, rfl, _, _, rfl, rfl, (by decide : (0 : Int) < 2147483587), ?_⟩⟩⟩
      exact ⟨rfl, _, _, rfl, Int.emod_nonneg _ (by decide), Int.emod_lt_of_pos _ (by decide)⟩
    · rintro σ H' ⟨rfl, m, v, rfl, m0, m1⟩
      have hS1 := s1.seq hS
      have fin2 : ∀ (x m2 : Int), 0 ≤ x → 0 ≤ m2 → m2 < 2147483587 → ∀ p2, upd H p (.lst (cutV (ns.map V.int) none (some 12))) p2 = none →
          Q (.ref p2) (upd (upd H p (.lst (cutV (ns.map V.int) none (some 12)))) p2 (.lst [.int x, .int m2, .int 0, .int 2])) := fun x m2 x0 b0 b1 p2 hp2 =>
        q p2 _ (s1.free hp2) (s1.trans (Same.new hp2)) ⟨x, m2, 2, upd_same, x0, b0, b1, Int.le_refl _⟩
      refine ⟨_, rfl, _, rfl, _, _, rfl, .inl ⟨_, hS1, rfl⟩, _, _, rfl, rfl, _, rfl, ite2 (fun g => ?_) (fun g => ?_)⟩
      · have gl : t < ((ns.map V.int).length : Int) := of_decide_eq_true g
        obtain ⟨j, rfl⟩ := Int.eq_ofNat_of_zero_le t0
        have lj : j < ns.length := by
          rw [List.length_map] at gl
          omega
        have hj : (ns.map V.int)[j]? = some (V.int ns[j]) := by
          rw [List.getElem?_map, List.getElem?_eq_getElem lj]
          rfl
        refine ⟨_, rfl, _, rfl, a, _, _, _, rfl, rfl, hS1, atI_nat hj, .inl ⟨_, rfl, ?_⟩⟩
        refine ⟨_, rfl, _, _, rfl, rfl, .inl ⟨by omega, by omega⟩, _, rfl, .inl ⟨_, rfl, _, _, rfl, rfl, (by decide : (0 : Int) < 2147483629), _, _, rfl, rfl, .inr ⟨by decide, by decide⟩, _, _, rfl, rfl, _, _, rfl, rfl, .inl ⟨_, rfl, _, _, rfl, rfl, (by decide : (0 : Int) < 2147483587), ?_⟩⟩⟩
        refine ⟨_, rfl, _, _, rfl, rfl, _, rfl, ite2 (fun c1 => ?_) (fun c1 => ?_)⟩
        · refine iteT ⟨_, rfl, _, rfl, _, rfl, (by show 4 ≤ sizeLine; decide), fun p2 hp2 => ?_⟩
          exact fin2 _ _ (by split <;> omega) (Int.emod_nonneg _ (by decide)) (Int.emod_lt_of_pos _ (by decide)) p2 hp2
        · refine ⟨_, rfl, _, _, rfl, rfl, ⟨by decide, by decide, by decide⟩, _, _, rfl, rfl, _, rfl, ite2 (fun c2 => ?_) (fun c2 => ?_)⟩
          · refine ⟨_, rfl, _, rfl, _, rfl, (by show 4 ≤ sizeLine; decide), fun p2 hp2 => ?_⟩
            exact fin2 _ _ (by split <;> omega) (Int.emod_nonneg _ (by decide)) (Int.emod_lt_of_pos _ (by decide)) p2 hp2
          · refine ⟨_, rfl, (by show 4 ≤ sizeLine; decide), fun p2 hp2 => ?_⟩
            exact fin2 _ _ (Int.le_refl _) (Int.emod_nonneg _ (by decide)) (Int.emod_lt_of_pos _ (by decide)) p2 hp2
      · refine ⟨_, rfl, _, _, rfl, rfl, .inl ⟨by omega, by omega⟩, _, rfl, .inl ⟨_, rfl, _, _, rfl, rfl, (by decide : (0 : Int) < 2147483629), _, _, rfl, rfl, .inr ⟨by decide, by decide⟩, _, _, rfl, rfl, _, _, rfl, rfl, .inl ⟨_, rfl, _, _, rfl, rfl, (by decide : (0 : Int) < 2147483587), ?_⟩⟩⟩
        refine ⟨_, rfl, _, _, rfl, rfl, _, rfl, ite2 (fun c1 => ?_) (fun c1 => ?_)⟩
        · refine iteT ⟨_, rfl, _, rfl, _, rfl, (by show 4 ≤ sizeLine; decide), fun p2 hp2 => ?_⟩
          exact fin2 _ _ (by split <;> omega) (Int.emod_nonneg _ (by decide)) (Int.emod_lt_of_pos _ (by decide)) p2 hp2
        · refine ⟨_, rfl, _, _, rfl, rfl, ⟨by decide, by decide, by decide⟩, _, _, rfl, rfl, _, rfl, ite2 (fun c2 => ?_) (fun c2 => ?_)⟩
          · refine ⟨_, rfl, _, rfl, _, rfl, (by show 4 ≤ sizeLine; decide), fun p2 hp2 => ?_⟩
            exact fin2 _ _ (by split <;> omega) (Int.emod_nonneg _ (by decide)) (Int.emod_lt_of_pos _ (by decide)) p2 hp2
          · refine ⟨_, rfl, (by show 4 ≤ sizeLine; decide), fun p2 hp2 => ?_⟩
            exact fin2 _ _ (Int.le_refl _) (Int.emod_nonneg _ (by decide)) (Int.emod_lt_of_pos _ (by decide)) p2 hp2
end
end J2
namespace J2
open PySem PySem.Spec PyProof.Rows L2 KB
def odd1 : List PyData := [.none, .bool true, .bool false, .int 0, .int 1, .int (-1), .int 12, .int (10 ^ 30), .str "", .str "num", .str "a", .str "x", .str "let", .str "unit", .str "==", .tuple [], .tuple [.int 0], .tuple [.str "num"]]
def odd2 : List PyData := [.tuple [.str "var", .str "a"], .tuple [.str "var", .str "d"], .tuple [.str "var", .tuple [.str "var", .str "a"]], .tuple [.str "list"], .tuple [.str "list", .tuple [.str "num"], .tuple [.str "num"]], .tuple [.str "unit", .int 1]]
def odd3 : List PyData := [.tuple [.str "pair", .tuple [.str "num"]], .tuple [.str "name", .str "x"], .tuple [.str "name", .str "let"], .tuple [.str "number", .bool true], .tuple [.str "left", .int 1], .list [], .list [.str "num"], .dict [], .str "1x"]
def odd4 : List PyData := [.tuple [.str "fun", .tuple [.str "num"], .tuple [.str "unit"]], .str "A", .tuple [.tuple [.str "unit"]], .tuple [.tuple [], .tuple []]]
def oddL : List PyData := odd1 ++ odd2 ++ odd3 ++ odd4
theorem odd_good : (oddL.all fun d => gdB 3 60 d) = true := by decide +kernel
section
variable {K : PySem.W.Frag} {mg : Str → Option Value} {base : Heap} {P : Program} {w : World}
abbrev nPick : List Str := ["_law_well_here", "_law_some"]
theorem scPick : FnScope nPick ["_law_well_here", "_law_some"] (defScope (top 28)) := ⟨rfl, rfl, rfl, by decide +kernel, rfl, by decide +kernel, by decide +kernel⟩
theorem ok_pick {f fD : Addr} {fd fdD : FuncData} (F : FnP K "_law_pick" (top 28) f fd) (T : Bl K mg) (FD : FnP K "_law_draw" (top 27) fD fdD) (gD : mg "_law_draw" = some (.ref fD)) (bD : Binds K fdD ["_law_well_here", "_law_many"] []) :
    FnOk P w K mg base CX0 2 f fd ["_law_well_here", "_law_some"] (spPick K) := by
  have GD : FnOk P w K mg base CX0 1 fD fdD ["_law_well_here", "_law_many"] spDraw := ok_draw FD T
  refine F.ok scPick (fun vs H Q E h => ?_) (fun cdv A outer s H vs Q E hr h => ?_)
  · obtain ⟨w, t, xs, c, rfl, _⟩ := h
    rfl
  · obtain ⟨w, t, xs, c, rfl, hw, hc, hS, h0, h1, q⟩ := h
    have sc := scPick
    refine ⟨_, PSs.nox (pss_one (ps_ret (pe_ix ix_tup (pv 1) (pe_call GD hr rfl gD FD.kp bD .nil pass0 (pa_cons (pv 0) (pa_cons (pe_callB call_len (by rfl) T.len (by decide +kernel) (pa_cons (pv 1) pa_nil)) pa_nil))) (fun _ _ => rfl)))), ?_⟩
    refine ⟨_, rfl, _, rfl, _, rfl, _, _, rfl, .inr ⟨_, hS, rfl⟩, w, _, c, rfl, hw, hc, by omega, by omega, fun r c' H' r0 r1 kw hw' hc' => ?_⟩
    obtain ⟨j, rfl⟩ := Int.eq_ofNat_of_zero_le r0
    have lj : j < xs.length := by omega
    exact ⟨t, xs, _, xs[j], rfl, rfl, kw.seqT hw hS, atI_nat (List.getElem?_eq_getElem lj), q j _ c' H' (List.getElem?_eq_getElem lj) kw hw' hc'⟩
abbrev nOdd : List Str := ["_law_well_here", "_law_some", "_law_more", "_law_ends"]
theorem scOdd : FnScope nOdd ["_law_well_here"] (defScope (top 30)) := ⟨rfl, rfl, rfl, by decide +kernel, rfl, by decide +kernel, by decide +kernel⟩
theorem ok_odd {f fP : Addr} {fd fdP : FuncData} (F : FnP K "_law_odd" (top 30) f fd) (FP : FnP K "_law_pick" (top 28) fP fdP) (gP : mg "_law_pick" = some (.ref fP)) (bP : Binds K fdP ["_law_well_here", "_law_some"] [])
    (GP : FnOk P w K mg base CX0 2 fP fdP ["_law_well_here", "_law_some"] (spPick K)) : FnOk P w K mg base CX0 3 f fd ["_law_well_here"] (spOdd oddL) := by
  refine F.ok scOdd (fun vs H Q E h => ?_) (fun cdv A outer s H vs Q E hr h => ?_)
  · obtain ⟨w, c, rfl, _⟩ := h
    rfl
  · obtain ⟨w, c, rfl, hw, hc, q⟩ := h
    have sc := scOdd
    refine ⟨_, PSs.nox (pss_cons (ps_set (i := 1) sc.nd rfl (Or.inl rfl) (pe_tup (pa_cons pe_non (pa_cons pe_bl (pa_cons pe_bl (pa_cons pe_int (pa_cons pe_int (pa_cons (pe_un un_neg pe_int) (pa_cons pe_int (pa_cons (pe_op op_pow pe_int pe_int) (pa_cons pe_str (pa_cons pe_str (pa_cons pe_str (pa_cons pe_str (pa_cons pe_str (pa_cons pe_str (pa_cons pe_str (pa_cons (pe_tup pa_nil) (pa_cons (pe_tup (pa_cons pe_int pa_nil)) (pa_cons (pe_tup (pa_cons pe_str pa_nil)) pa_nil)))))))))))))))))))) (pss_cons (ps_set (i := 2) sc.nd rfl (Or.inl rfl) (pe_tup (pa_cons (pe_tup (pa_cons pe_str (pa_cons pe_str pa_nil))) (pa_cons (pe_tup (pa_cons pe_str (pa_cons pe_str pa_nil))) (pa_cons (pe_tup (pa_cons pe_str (pa_cons (pe_tup (pa_cons pe_str (pa_cons pe_str pa_nil))) pa_nil))) (pa_cons (pe_tup (pa_cons pe_str pa_nil)) (pa_cons (pe_tup (pa_cons pe_str (pa_cons (pe_tup (pa_cons pe_str pa_nil)) (pa_cons (pe_tup (pa_cons pe_str pa_nil)) pa_nil)))) (pa_cons (pe_tup (pa_cons pe_str (pa_cons pe_int pa_nil))) pa_nil)))))))) (pss_cons (ps_set (i := 3) sc.nd rfl (Or.inl rfl) (pe_tup (pa_cons (pe_tup (pa_cons pe_str (pa_cons (pe_tup (pa_cons pe_str pa_nil)) pa_nil))) (pa_cons (pe_tup (pa_cons pe_str (pa_cons pe_str pa_nil))) (pa_cons (pe_tup (pa_cons pe_str (pa_cons pe_str pa_nil))) (pa_cons (pe_tup (pa_cons pe_str (pa_cons pe_bl pa_nil))) (pa_cons (pe_tup (pa_cons pe_str (pa_cons pe_int pa_nil))) (pa_cons (pe_lst pa_nil) (pa_cons (pe_lst (pa_cons pe_str pa_nil)) (pa_cons pe_dnewK (pa_cons pe_str pa_nil))))))))))) (pss_one (ps_ret (pe_call GP hr rfl gP FP.kp bP .nil pass0 (pa_cons (pv 0) (pa_cons (pe_op op_catT (pe_op op_catT (pe_op op_catT (pv 1) (pv 2)) (pv 3)) (pe_tup (pa_cons (pe_tup (pa_cons pe_str (pa_cons (pe_tup (pa_cons pe_str pa_nil)) (pa_cons (pe_tup (pa_cons pe_str pa_nil)) pa_nil)))) (pa_cons pe_str (pa_cons (pe_tup (pa_cons (pe_tup (pa_cons pe_str pa_nil)) pa_nil)) (pa_cons (pe_tup (pa_cons (pe_tup pa_nil) (pa_cons (pe_tup pa_nil) pa_nil))) pa_nil)))))) pa_nil)))))))), ?_⟩
    have d1 : DE (tTup _) (.tuple odd1) := (de_tup (da_cons de_non (da_cons (de_bl _) (da_cons (de_bl _) (da_cons (de_int _) (da_cons (de_int _) (da_cons (de_neg _) (da_cons (de_int _) (da_cons (de_pow (i := 10) (j := 30) ⟨by decide, by decide, by decide⟩) (da_cons (de_str _) (da_cons (de_str _) (da_cons (de_str _) (da_cons (de_str _) (da_cons (de_str _) (da_cons (de_str _) (da_cons (de_str _) (da_cons (de_tup da_nil (by decide)) (da_cons (de_tup (da_cons (de_int _) da_nil) (by decide)) (da_cons (de_tup (da_cons (de_str _) da_nil) (by decide)) da_nil)))))))))))))))))) (by decide))
    have d2 : DE (tTup _) (.tuple odd2) := (de_tup (da_cons (de_tup (da_cons (de_str _) (da_cons (de_str _) da_nil)) (by decide)) (da_cons (de_tup (da_cons (de_str _) (da_cons (de_str _) da_nil)) (by decide)) (da_cons (de_tup (da_cons (de_str _) (da_cons (de_tup (da_cons (de_str _) (da_cons (de_str _) da_nil)) (by decide)) da_nil)) (by decide)) (da_cons (de_tup (da_cons (de_str _) da_nil) (by decide)) (da_cons (de_tup (da_cons (de_str _) (da_cons (de_tup (da_cons (de_str _) da_nil) (by decide)) (da_cons (de_tup (da_cons (de_str _) da_nil) (by decide)) da_nil))) (by decide)) (da_cons (de_tup (da_cons (de_str _) (da_cons (de_int _) da_nil)) (by decide)) da_nil)))))) (by decide))
    have d3 : DE (tTup _) (.tuple odd3) := (de_tup (da_cons (de_tup (da_cons (de_str _) (da_cons (de_tup (da_cons (de_str _) da_nil) (by decide)) da_nil)) (by decide)) (da_cons (de_tup (da_cons (de_str _) (da_cons (de_str _) da_nil)) (by decide)) (da_cons (de_tup (da_cons (de_str _) (da_cons (de_str _) da_nil)) (by decide)) (da_cons (de_tup (da_cons (de_str _) (da_cons (de_bl _) da_nil)) (by decide)) (da_cons (de_tup (da_cons (de_str _) (da_cons (de_int _) da_nil)) (by decide)) (da_cons (de_lst da_nil (by decide)) (da_cons (de_lst (da_cons (de_str _) da_nil) (by decide)) (da_cons de_emp (da_cons (de_str _) da_nil))))))))) (by decide))
    have d4 : DE (tTup _) (.tuple odd4) := (de_tup (da_cons (de_tup (da_cons (de_str _) (da_cons (de_tup (da_cons (de_str _) da_nil) (by decide)) (da_cons (de_tup (da_cons (de_str _) da_nil) (by decide)) da_nil))) (by decide)) (da_cons (de_str _) (da_cons (de_tup (da_cons (de_tup (da_cons (de_str _) da_nil) (by decide)) da_nil) (by decide)) (da_cons (de_tup (da_cons (de_tup da_nil (by decide)) (da_cons (de_tup da_nil (by decide)) da_nil)) (by decide)) da_nil)))) (by decide))
    refine DE.asg d1 fun v1 H1 s1 t1 => ?_
    refine DE.asg d2 fun v2 H2 s2 t2 => ?_
    refine DE.asg d3 fun v3 H3 s3 t3 => ?_
    have t1' := (t1.grow s2).grow s3
    have t2' := (t2.grow s3).back s1
    have t3' := t3.back (s1.trans s2)
    cases t1' with
    | tup f1 h1 r1 => cases t2' with
      | tup f2 h2 r2 => cases t3' with
        | tup f3 h3 r3 =>
          have s03 := (s1.trans s2).trans s3
          rename_i a1 xs1 a2 xs2 a3 xs3
          have l1 := r1.length
          have l2 := r2.length
          have l3 := r3.length
          have e1 : odd1.length = 18 := rfl
          have e2 : odd2.length = 6 := rfl
          have e3 : odd3.length = 9 := rfl
          have n1 : xs1 ≠ [] := fun z => by (subst z; cases l1)
          have n2 : xs2 ≠ [] := fun z => by (subst z; cases l2)
          have n3 : xs3 ≠ [] := fun z => by (subst z; cases l3)
          have cat : ∀ {a b : List V}, a ≠ [] → a ++ b ≠ [] := fun h z => h (List.append_eq_nil_iff.mp z).1
          refine ⟨_, rfl, _, rfl, _, rfl, a1, a2, xs1, xs2, rfl, rfl, SqT.of h1, SqT.of h2, n1, Nat.le_of_lt (small1000 (by omega)), fun z => absurd z n2, fun _ p hp => ?_⟩
          refine ⟨_, rfl, p, a3, xs1 ++ xs2, xs3, rfl, rfl, SqT.of upd_same, SqT.of (Same.new hp _ _ h3), cat n1, Nat.le_of_lt (small1000 (by rw [List.length_append]; omega)), fun z => absurd z n3, fun _ p2 hp2 => ?_⟩
          refine d4 _ _ _ fun v4 H4 s4 t4 => ?_
          have sA := (Same.new hp).trans ((Same.new hp2).trans s4)
          cases t4 with
          | tup f4 h4 r4 =>
            rename_i a4 xs4
            have l4 := r4.length
            have e4 : odd4.length = 4 := rfl
            have n4 : xs4 ≠ [] := fun z => by (subst z; cases l4)
            refine ⟨p2, a4, xs1 ++ xs2 ++ xs3, xs4, rfl, rfl, SqT.of (s4 _ _ upd_same), SqT.of h4, cat (cat n1), Nat.le_of_lt (small1000 (by simp only [List.length_append]; omega)), fun z => absurd z n4, fun _ p3 hp3 => ?_⟩
            have sB := sA.trans (Same.new (o := .tup (xs1 ++ xs2 ++ xs3 ++ xs4)) hp3)
            have s0 := s03.trans sB
            have all : DtA (New H) (upd H4 p3 (.tup (xs1 ++ xs2 ++ xs3 ++ xs4))) (xs1 ++ xs2 ++ xs3 ++ xs4) oddL :=
              (((r1.grow sB).append (r2.grow sB)).append (r3.grow sB)).append ((r4.back (s03.trans ((Same.new hp).trans (Same.new hp2)))).grow (Same.new hp3))
            refine ⟨w, p3, _, c, rfl, hw.same s0, hc, SqT.of upd_same, by (simp only [List.length_append]; omega), by (simp only [List.length_append]; omega), fun i v c' H' hi kw hw' hc' => ?_⟩
            obtain ⟨d, hd, dt⟩ := all.get hi
            exact q i v d c' H' hd (kw.data hw.some dt) ((Kw.same s0).trans kw) hw' hc'
end
end J2
namespace J2
open PySem PySem.Spec PyProof.Rows L2 KB
section
variable {K : PySem.W.Frag} {mg : Str → Option Value} {base : Heap} {P : Program} {w : World}
abbrev nKind : List Str := ["_law_well_here", "_law_deep", "_law_which", "_law_branch", "_law_word", "_law_one"]
theorem scKind : FnScope nKind ["_law_well_here", "_law_deep", "_law_which"] (defScope (top 31)) := ⟨rfl, rfl, rfl, by decide +kernel, rfl, by decide +kernel, by decide +kernel⟩
theorem kind_body (n : Nat) {f fD fP : Addr} {fd fdD fdP : FuncData} {spR : Sp} (F : FnP K "_law_kind" (top 31) f fd) (T : Bl K mg)
    (FD : FnP K "_law_draw" (top 27) fD fdD) (gD : mg "_law_draw" = some (.ref fD)) (bD : Binds K fdD ["_law_well_here", "_law_many"] [])
    (FP : FnP K "_law_pick" (top 28) fP fdP) (gP : mg "_law_pick" = some (.ref fP)) (bP : Binds K fdP ["_law_well_here", "_law_some"] [])
    (gR : mg "_law_kind" = some (.ref f)) (bR : Binds K fd ["_law_well_here", "_law_deep", "_law_which"] []) (GR : FnOk P w K mg base CX0 (3 + n) f fd ["_law_well_here", "_law_deep", "_law_which"] spR)
    (hR : ∀ m, n = m + 1 → ∀ vs H Q, spKind m vs H Q E0 → spR vs H Q E0) : FnOk P w K mg base CX0 (3 + n + 1) f fd ["_law_well_here", "_law_deep", "_law_which"] (spKind n) := by
  have GD : FnOk P w K mg base CX0 1 fD fdD ["_law_well_here", "_law_many"] spDraw := ok_draw FD T
  have GP : FnOk P w K mg base CX0 2 fP fdP ["_law_well_here", "_law_some"] (spPick K) := ok_pick FP T FD gD bD
  refine F.ok scKind (fun vs H Q E h => ?_) (fun cdv A outer s H vs Q E hr h => ?_)
  · obtain ⟨w, wh, c, rfl, _⟩ := h
    rfl
  · obtain ⟨w, wh, c, rfl, hw, hc, q⟩ := h
    have sc := scKind
    have hrD : Room 1 _ := hr.mono (by omega)
    have hrP : Room 2 _ := hr.mono (by omega)
    have hrR : Room (3 + n) _ := hr
    have t2 := Ck_ge n
    refine ⟨_, PSs.nox (pss_cons (ps_set (i := 3) sc.nd rfl (Or.inl rfl) (pe_ifExp (pt_cmpR op_gt (pv 1) pe_int (nomark _)) (pe_call GD hrD rfl gD FD.kp bD .nil pass0 (pa_cons (pv 0) (pa_cons pe_int pa_nil))) (pe_call GD hrD rfl gD FD.kp bD .nil pass0 (pa_cons (pv 0) (pa_cons pe_int pa_nil))))) (pss_cons (ps_if (pt_cmpR op_lt (pv 3) pe_int (nomark _)) (pss_cons (ps_if (PW.pt (pw_and (pt_cmpR op_lt (pv 3) pe_int (nomark _)) (pw_and1 (pt_cmpR op_lt (pv 2) pe_int (nomark _))))) (pss_one (ps_ret (pe_tup (pa_cons pe_str (pa_cons (pe_call GP hrP rfl gP FP.kp bP .nil pass0 (pa_cons (pv 0) (pa_cons (pe_tup (pa_cons pe_str (pa_cons pe_str (pa_cons pe_str pa_nil)))) pa_nil))) pa_nil))))) pss_nil) (pss_one (ps_ret (pe_ifExp (pt_cmpR op_eq (pv 3) pe_int (nomark _)) (pe_tup (pa_cons pe_str pa_nil)) (pe_tup (pa_cons pe_str pa_nil)))))) pss_nil) (pss_cons (ps_set (i := 4) sc.nd rfl (Or.inl rfl) (pe_ix ix_tup (pe_tup (pa_cons pe_str (pa_cons pe_str (pa_cons pe_str (pa_cons pe_str (pa_cons pe_str (pa_cons pe_str (pa_cons pe_str (pa_cons pe_str pa_nil))))))))) (pe_op op_sub (pv 3) pe_int) (fun _ _ => rfl))) (pss_cons (ps_set (i := 5) sc.nd rfl (Or.inl rfl) (pe_call GR hrR rfl gR F.kp bR .nil pass0 (pa_cons (pv 0) (pa_cons (pe_op op_sub (pv 1) pe_int) (pa_cons (pv 2) pa_nil))))) (pss_cons (ps_if (pt_cmpR op_eq (pv 4) pe_str (nomark _)) (pss_one (ps_ret (pe_tup (pa_cons (pv 4) (pa_cons (pv 5) pa_nil))))) pss_nil) (pss_cons (ps_if (PW.pt (pw_and (pt_cmpR op_eq (pv 4) pe_str (nomark _)) (pw_and1 (pt_cmpR op_in_seq (pv 2) (pe_tup (pa_cons pe_int (pa_cons pe_int pa_nil))) (by rfl))))) (pss_one (ps_set (i := 4) sc.nd rfl (Or.inl rfl) pe_str)) pss_nil) (pss_one (ps_ret (pe_tup (pa_cons (pv 4) (pa_cons (pv 5) (pa_cons (pe_call GR hrR rfl gR F.kp bR .nil pass0 (pa_cons (pv 0) (pa_cons (pe_op op_sub (pv 1) pe_int) (pa_cons (pv 2) pa_nil)))) pa_nil)))))))))))), ?_⟩
    -- the branch
    refine kind_draw (n := n) rfl rfl hw (by omega) fun b c1 H1 b0 b1 k1 w1 e1 => ?_
    have big : ∀ k : Nat, k ≤ 1000 → k ≤ sizeLine := fun k h => Nat.le_of_lt (small1000 h)
    have lay : ∀ {c2 : Int} {H2 : Hp} {p : Addr} {xs : List V} {ds : List PyData}, Wl H2 w c2 → H2 p = none → DtA (Nw w) H2 xs ds → Dt (Nw w) (upd H2 p (.tup xs)) (.ref p) (.tuple ds) := fun w2 np dd =>
      .tup (w2.ne np).symm upd_same (dd.kw (Kw.new np))
    refine ⟨_, rfl, _, _, rfl, rfl, _, rfl, ite2 (fun g => ?_) (fun g => ?_)⟩
    · have leaf : ∀ {Q' : VK}, (∀ v H', Q' v H' = Q v H') → tIf (tTest (tOp rEq (tVar 3) (tC (V.int 3)))) (tTup (tCons (tC (V.str "unit")) tNil)) (tTup (tCons (tC (V.str "num")) tNil)) [some (.ref w), some (.int n), some (.int wh), some (.int b), none, none] H1 Q' := fun hQ => by
        refine ⟨_, rfl, rfl, _, rfl, ite2 (fun g3 => ?_) (fun g3 => ?_)⟩
        · refine ⟨big _ (by decide), fun p np => ?_⟩
          rw [hQ]
          exact q _ .unit c1 _ (lay w1 np (.cons (.str _) .nil)) (Nat.le_max_right _ _) (fun _ => rfl) (fun _ => rfl) (k1.trans (Kw.new np)) (w1.same (Same.new np)) (by omega)
        · refine ⟨big _ (by decide), fun p np => ?_⟩
          rw [hQ]
          exact q _ .num c1 _ (lay w1 np (.cons (.str _) .nil)) (Nat.le_max_right _ _) (fun _ => rfl) (fun _ => rfl) (k1.trans (Kw.new np)) (w1.same (Same.new np)) (by omega)
      refine ⟨_, rfl, _, _, rfl, rfl, _, rfl, ite2 (fun g1 => ?_) (fun g1 => ?_)⟩
      · refine ⟨_, rfl, _, _, rfl, rfl, _, rfl, ite2 (fun g2 => ?_) (fun g2 => ?_)⟩
        · -- a variable
          have wh2 : wh < 2 := of_decide_eq_true g2
          refine ⟨_, rfl, big _ (by decide), fun t nt => ?_⟩
          have sm := @Same.new t _ (.tup [.str "a", .str "b", .str "c"]) nt
          refine ⟨w, t, _, c1, rfl, w1.same sm, by omega, SqT.of upd_same, by decide, by decide, fun i v c2 H2 hi k2 w2 e2 => ?_⟩
          obtain ⟨x, rfl⟩ : ∃ x, v = V.str x := by
            match i, hi with
            | 0, hi => exact ⟨_, (Option.some.inj hi).symm⟩
            | 1, hi => exact ⟨_, (Option.some.inj hi).symm⟩
            | 2, hi => exact ⟨_, (Option.some.inj hi).symm⟩
          refine ⟨big _ (by show (2 : Nat) ≤ 1000; decide), fun p np => ?_⟩
          exact q _ (.var x) c2 _ (lay w2 np (.cons (.str _) (.cons (.str _) .nil))) (Nat.le_max_right _ _) (fun z => absurd z (by omega)) (fun _ => rfl) (k1.trans ((Kw.same sm).trans (k2.trans (Kw.new np)))) (w2.same (Same.new np)) (by omega)
        · exact leaf fun _ _ => rfl
      · exact iteF (leaf fun _ _ => rfl)
    · have g4 : ¬ b < 4 := of_decide_eq_false (by simpa using g)
      have gn : 1 < (n : Int) ∧ b < 12 := b1.resolve_left g4
      obtain ⟨m, rfl⟩ : ∃ m, n = m + 1 := by
        cases n with
        | zero => exact absurd gn.1 (by decide)
        | succ m => exact ⟨m, rfl⟩
      have tm := Ck_ge m
      have tt : Ck (m + 1) = 2 * Ck m + 2 := rfl
      refine ⟨big _ (by decide), fun t nt => ?_⟩
      have sm := @Same.new t _ (.tup [.str "list", .str "list", .str "pair", .str "pair", .str "either", .str "either", .str "fun", .str "fun"]) nt
      obtain ⟨j, hj⟩ := Int.eq_ofNat_of_zero_le (show (0 : Int) ≤ b - 4 by omega)
      have j8 : j < 8 := by omega
      obtain ⟨wd, hwd, hw4⟩ : ∃ wd : Str, ([V.str "list", .str "list", .str "pair", .str "pair", .str "either", .str "either", .str "fun", .str "fun"])[j]? = some (.str wd) ∧ (wd = "list" ∨ wd = "pair" ∨ wd = "either" ∨ wd = "fun") := by
        match j, j8 with
        | 0, _ => exact ⟨_, rfl, .inl rfl⟩
        | 1, _ => exact ⟨_, rfl, .inl rfl⟩
        | 2, _ => exact ⟨_, rfl, .inr (.inl rfl)⟩
        | 3, _ => exact ⟨_, rfl, .inr (.inl rfl)⟩
        | 4, _ => exact ⟨_, rfl, .inr (.inr (.inl rfl))⟩
        | 5, _ => exact ⟨_, rfl, .inr (.inr (.inl rfl))⟩
        | 6, _ => exact ⟨_, rfl, .inr (.inr (.inr rfl))⟩
        | 7, _ => exact ⟨_, rfl, .inr (.inr (.inr rfl))⟩
      refine ⟨_, rfl, _, _, rfl, rfl, t, _, _, _, rfl, rfl, SqT.of upd_same, (by rw [hj]; exact atI_nat hwd), ?_⟩
      (refine ⟨_, rfl, _, rfl, _, _, rfl, rfl, _, rfl, ?_⟩)
      refine hR m rfl _ _ _ ⟨w, wh, c1, ?_, w1.same sm, by omega, fun v1 kd1 c2 H2 dv1 dp1 cl1 nf1 k2 w2 e2 => ?_⟩
      · show [V.ref w, V.int (((m + 1 : Nat) : Int) - 1), V.int wh] = _
        rw [show (((m + 1 : Nat) : Int) - 1) = (m : Int) by omega]
      have k02 := k1.trans ((Kw.same sm).trans k2)
      have m1 : 1 ≤ m := by omega
      have dp1' : kd1.dep ≤ m := Nat.le_trans dp1 (by omega)
      refine ⟨_, rfl, rfl, _, rfl, ite2 (fun gl => ?_) (fun gl => ?_)⟩
      · have el : wd = "list" := V.str.inj (of_decide_eq_true gl)
        subst el
        refine ⟨_, rfl, _, rfl, big _ (by show (2 : Nat) ≤ 1000; decide), fun p np => ?_⟩
        refine q _ (.lst kd1) c2 _ (lay w2 np (.cons (.str _) (.cons dv1 .nil))) ?_ (fun z => cl1 z) (fun z => nf1 z) (k02.trans (Kw.new np)) (w2.same (Same.new np)) (by omega)
        show kd1.dep + 1 ≤ max (m + 1) 1
        omega
      · have nl : wd ≠ "list" := fun z => of_decide_eq_false (p := V.str wd = V.str "list") (by simpa using gl) (congrArg V.str z)
        have two : ∀ (wd2 : Str) (kd : Kd → Kd → Kd), (∀ a b, (kd a b).d = .tuple [.str wd2, a.d, b.d]) → (∀ a b, (kd a b).dep = max a.dep b.dep + 1) → (∀ a b, a.closed = true → b.closed = true → (kd a b).closed = true) →
            (wh = 1 ∨ wh = 2 → ∀ a b, a.noFn = true → b.noFn = true → (kd a b).noFn = true) → ∀ H3 : Hp, Kw w H2 H3 → Wl H3 w c2 →
            tTup (tCons (tVar 4) (tCons (tVar 5) (tCons (tCall spR [] E0 (tCons (tVar 0) (tCons (tOp (rI0 fun i j => V.int (i - j)) (tVar 1) (tC (V.int 1))) (tCons (tVar 2) tNil)))) tNil)))
              [some (.ref w), some (.int ((m + 1 : Nat) : Int)), some (.int wh), some (.int b), some (.str wd2), some v1] H3 Q := by
          intro wd2 kd hd hdep hcl hnf H3 k3 w3
          refine ⟨_, rfl, _, rfl, _, rfl, _, rfl, _, _, rfl, rfl, _, rfl, ?_⟩
          refine hR m rfl _ _ _ ⟨w, wh, c2, ?_, w3, by omega, fun v2 kd2 c4 H4 dv2 dp2 cl2 nf2 k4 w4 e4 => ?_⟩
          · show [V.ref w, V.int (((m + 1 : Nat) : Int) - 1), V.int wh] = _
            rw [show (((m + 1 : Nat) : Int) - 1) = (m : Int) by omega]
          refine ⟨big _ (by show (3 : Nat) ≤ 1000; decide), fun p np => ?_⟩
          have dp2' : kd2.dep ≤ m := Nat.le_trans dp2 (by omega)
          refine q _ (kd kd1 kd2) c4 _ (by rw [hd]; exact lay w4 np (.cons (.str _) (.cons ((dv1.kw k3).kw k4) (.cons dv2 .nil)))) ?_ (fun z => hcl _ _ (cl1 z) (cl2 z)) (fun z => hnf z _ _ (nf1 z) (nf2 z)) (k02.trans (k3.trans (k4.trans (Kw.new np)))) (w4.same (Same.new np)) (by omega)
          rw [hdep]
          omega
        have pairK : ∀ H3 : Hp, Kw w H2 H3 → Wl H3 w c2 → _ := two "pair" .pair (fun _ _ => rfl) (fun _ _ => rfl) (fun _ _ x y => by simp only [Kd.closed, x, y]; rfl) (fun _ _ _ x y => by simp only [Kd.noFn, x, y]; rfl)
        refine ⟨_, rfl, rfl, _, rfl, ite2 (fun gf => ?_) (fun gf => ?_)⟩
        · have ef : wd = "fun" := V.str.inj (of_decide_eq_true gf)
          subst ef
          refine ⟨_, rfl, big _ (by decide), fun t2 nt2 => ?_⟩
          have sm2 := @Same.new t2 _ (.tup [.int 1, .int 2]) nt2
          refine ⟨t2, _, rfl, .inr (SqT.of upd_same), rfl, rfl, _, rfl, ite2 (fun gi => ?_) (fun gi => ?_)⟩
          · exact pairK _ (Kw.same sm2) (w2.same sm2)
          · refine two "fun" .fn (fun _ _ => rfl) (fun _ _ => rfl) (fun _ _ x y => by simp only [Kd.closed, x, y]; rfl) (fun z => ?_) _ (Kw.same sm2) (w2.same sm2)
            exfalso
            rcases z with z | z
            · subst z
              exact gi (by decide +kernel)
            · subst z
              exact gi (by decide +kernel)
        · have nf : wd ≠ "fun" := fun z => of_decide_eq_false (p := V.str wd = V.str "fun") (by simpa using gf) (congrArg V.str z)
          refine iteF ?_
          rcases hw4 with e | e | e | e
          · exact absurd e nl
          · subst e
            exact pairK _ (Kw.refl w H2) w2
          · subst e
            exact two "either" .eith (fun _ _ => rfl) (fun _ _ => rfl) (fun _ _ x y => by simp only [Kd.closed, x, y]; rfl) (fun _ _ _ x y => by simp only [Kd.noFn, x, y]; rfl) _ (Kw.refl w H2) w2
          · exact absurd e nf
theorem ok_kind {f fD fP : Addr} {fd fdD fdP : FuncData} (F : FnP K "_law_kind" (top 31) f fd) (T : Bl K mg)
    (FD : FnP K "_law_draw" (top 27) fD fdD) (gD : mg "_law_draw" = some (.ref fD)) (bD : Binds K fdD ["_law_well_here", "_law_many"] [])
    (FP : FnP K "_law_pick" (top 28) fP fdP) (gP : mg "_law_pick" = some (.ref fP)) (bP : Binds K fdP ["_law_well_here", "_law_some"] [])
    (gR : mg "_law_kind" = some (.ref f)) (bR : Binds K fd ["_law_well_here", "_law_deep", "_law_which"] []) : ∀ n : Nat, FnOk P w K mg base CX0 (3 + n + 1) f fd ["_law_well_here", "_law_deep", "_law_which"] (spKind n)
  | 0 => kind_body 0 (spR := fun _ _ _ _ => False) F T FD gD bD FP gP bP gR bR ⟨fun _ _ _ _ h => h.elim, fun _ _ _ _ _ _ _ _ _ _ _ _ _ h => h.elim⟩ fun m e => by cases e
  | n + 1 => kind_body (n + 1) F T FD gD bD FP gP bP gR bR (ok_kind F T FD gD bD FP gP bP gR bR n) fun m e => by cases e; exact fun _ _ _ h => h
end
end J2
namespace J2
open PySem PySem.Spec PyProof.Rows L2 KB
theorem odd_sh : (oddL.all fun d => d.showable && (decide (d.depth ≤ 3) && decide (sz d ≤ 100))) = true := by decide +kernel
theorem odd_ibB : (oddL.all fun d => ibB (10 ^ 30) d) = true := by decide +kernel
theorem odd_ib {B : Nat} (hB : bg ≤ B) : ∀ d ∈ oddL, IB B d := fun d hd =>
  (ibB_ok (List.all_eq_true.mp odd_ibB d hd)).mono (Nat.le_trans (by unfold bg; decide +kernel) hB)
section
variable {K : PySem.W.Frag} {mg : Str → Option Value} {base : Heap} {P : Program} {w : World}
abbrev nBent : List Str := ["_law_well_here", "_law_thing", "_law_way", "_law_some", "_law_at"]
theorem scBent : FnScope nBent ["_law_well_here", "_law_thing"] (defScope (top 39)) := ⟨rfl, rfl, rfl, by decide +kernel, rfl, by decide +kernel, by decide +kernel⟩
theorem ok_bent {f : Addr} {fd : FuncData} (F : FnP K "_law_bent" (top 39) f fd) (T : Bl K mg) (hD : Has P w K mg base "_law_draw" ["_law_well_here", "_law_many"] 1 spDraw) (hP : Has P w K mg base "_law_pick" ["_law_well_here", "_law_some"] 2 (spPick K))
    (hO : Has P w K mg base "_law_odd" ["_law_well_here"] 3 (spOdd oddL)) : FnOk P w K mg base CX0 4 f fd ["_law_well_here", "_law_thing"] spBent := by
  obtain ⟨fD, fdD, kD, gD, bD, GD⟩ := hD
  obtain ⟨fP, fdP, kP, gP, bP, GP⟩ := hP
  obtain ⟨fO, fdO, kO, gO, bO, GO⟩ := hO
  refine F.ok scBent (fun vs H Q E h => ?_) (fun cdv A outer s H vs Q E hr h => ?_)
  · obtain ⟨w, v, d, B, c, rfl, _⟩ := h
    rfl
  · obtain ⟨w, v, d, B, c, rfl, hd, hsh, hsz, hib, hB0, hB, hw, hc, q⟩ := h
    have sc := scBent
    have hrD : Room 1 _ := hr.mono (by omega)
    have hrP : Room 2 _ := hr.mono (by omega)
    have hrO : Room 3 _ := hr
    refine ⟨_, PSs.nox (pss_cons (ps_set (i := 2) sc.nd rfl (Or.inl rfl) (pe_call GD hrD rfl gD kD bD .nil pass0 (pa_cons (pv 0) (pa_cons pe_int pa_nil)))) (pss_cons (ps_if (PW.pt (pw_and (pt_cmpR op_lt (pv 2) pe_int (nomark _)) (pw_and (pt_val (pe_callB call_isi (by rfl) T.isinstance (by decide +kernel) (pa_cons (pv 1) (pa_cons (pe_bltn (v := .ty "int") (by rfl) T.int (by decide +kernel) rfl) pa_nil)))) (pw_and1 (pt_not (pt_val (pe_callB call_isi (by rfl) T.isinstance (by decide +kernel) (pa_cons (pv 1) (pa_cons (pe_bltn (v := .ty "bool") (by rfl) T.bool (by decide +kernel) rfl) pa_nil))))))))) (pss_one (ps_ret (pe_op op_sub (pe_op op_add (pv 1) (pe_op op_mul pe_int (pv 2))) pe_int))) pss_nil) (pss_cons (ps_if (PW.pt (pw_and (pt_cmpR op_lt (pv 2) pe_int (nomark _)) (pw_and1 (pt_val (pe_callB call_isi (by rfl) T.isinstance (by decide +kernel) (pa_cons (pv 1) (pa_cons (pe_bltn (v := .ty "str") (by rfl) T.str (by decide +kernel) rfl) pa_nil))))))) (pss_cons (ps_set (i := 3) sc.nd rfl (Or.inl rfl) (pe_tup (pa_cons pe_str (pa_cons pe_str (pa_cons pe_str (pa_cons pe_str (pa_cons pe_str (pa_cons pe_str (pa_cons pe_str (pa_cons pe_str (pa_cons pe_str (pa_cons pe_str (pa_cons pe_str (pa_cons pe_str (pa_cons pe_str (pa_cons pe_str pa_nil)))))))))))))))) (pss_one (ps_ret (pe_call GP hrP rfl gP kP bP .nil pass0 (pa_cons (pv 0) (pa_cons (pv 3) pa_nil)))))) pss_nil) (pss_cons (ps_if (PW.pt (pw_or (pt_cmpR op_lt (pv 2) pe_int (nomark _)) (pw_or (pt_not (pt_val (pe_callB call_isi (by rfl) T.isinstance (by decide +kernel) (pa_cons (pv 1) (pa_cons (pe_bltn (v := .ty "tuple") (by rfl) T.tuple (by decide +kernel) rfl) pa_nil))))) (pw_or1 (pt_cmpR op_eq (pe_callB call_len (by rfl) T.len (by decide +kernel) (pa_cons (pv 1) pa_nil)) pe_int (nomark _)))))) (pss_one (ps_ret (pe_call GO hrO rfl gO kO bO .nil pass0 (pa_cons (pv 0) pa_nil)))) pss_nil) (pss_cons (ps_set (i := 4) sc.nd rfl (Or.inl rfl) (pe_call GD hrD rfl gD kD bD .nil pass0 (pa_cons (pv 0) (pa_cons (pe_callB call_len (by rfl) T.len (by decide +kernel) (pa_cons (pv 1) pa_nil)) pa_nil)))) (pss_cons (ps_if (pt_cmpR op_eq (pv 2) pe_int (nomark _)) (pss_one (ps_ret (pe_op op_catA (pe_slice sl_tupA (pv 1) po_none (po_some (pv 4))) (pe_slice sl_tupA (pv 1) (po_some (pe_op op_add (pv 4) pe_int)) po_none)))) pss_nil) (pss_cons (ps_if (pt_cmpR op_eq (pv 2) pe_int (nomark _)) (pss_one (ps_ret (pe_op op_catA (pe_op op_catA (pe_slice sl_tupA (pv 1) po_none (po_some (pv 4))) (pe_tup (pa_cons (pe_ix ix_tup (pv 1) (pv 4) (fun _ _ => rfl)) pa_nil))) (pe_slice sl_tupA (pv 1) (po_some (pv 4)) po_none)))) pss_nil) (pss_cons (ps_if (pt_cmpR op_eq (pv 2) pe_int (nomark _)) (pss_one (ps_ret (pe_op op_catA (pv 1) (pe_tup (pa_cons (pe_call GO hrO rfl gO kO bO .nil pass0 (pa_cons (pv 0) pa_nil)) pa_nil))))) pss_nil) (pss_one (ps_ret (pe_ifExp (pt_cmpR op_eq (pv 2) pe_int (nomark _)) (pe_revT (pv 1)) (pe_callTy call_list_of (by rfl) T.list (by decide +kernel) (pa_cons (pv 1) pa_nil))))))))))))), ?_⟩
    have big : ∀ k : Nat, k ≤ 1000 → k ≤ sizeLine := fun k h => Nat.le_of_lt (small1000 h)
    have oddq : ∀ e ∈ oddL, Bt B d e := fun e he => by
      have h := List.all_eq_true.mp odd_sh e he
      (simp only [Bool.and_eq_true, decide_eq_true_eq] at h)
      exact Bt.small h.1 (by omega) (by omega) ((odd_ib hB0 e he).mono (Nat.le_succ B))
    refine ⟨_, rfl, w, 9, c, rfl, hw, by omega, by decide, by decide, fun b c1 H1 b0 b1 k1 w1 e1 => ?_⟩
    have hd1 := hd.kw k1
    obtain ⟨ty, tyx, ki, kb, kt, ks⟩ := tyD (K := K) hd1
    -- a number beside it
    refine seq_if (tst_and (tst_lt (m := b) rfl) fun _ => tst_and (y := !isBool d) (fun Q q => ⟨_, rfl, _, _, ty, _, _, rfl, .ty _, tyx, ki, _, rfl, q⟩) fun _ => tst_not fun Q q => ⟨_, rfl, _, _, ty, _, _, rfl, .ty _, tyx, kb, _, rfl, q⟩) (fun g => ?_) (fun g => ?_)
    · simp only [Bool.and_eq_true, decide_eq_true_eq] at g
      obtain ⟨g1, g2, g3⟩ := g
      obtain ⟨i, rfl⟩ : ∃ i, d = .int i := by
        cases d with
        | int i => exact ⟨i, rfl⟩
        | bool x => cases g3
        | _ => cases g2
      have ev := hd1.intI
      subst ev
      rw [IB] at hib
      have hz : (i + 2 * b - 1).natAbs ≤ B + 1 := by omega
      refine ⟨_, rfl, _, rfl, _, _, rfl, rfl, .inl ⟨by decide, by decide⟩, _, _, rfl, rfl, _, _, rfl, rfl, ?_⟩
      refine q _ (.int (i + 2 * b - 1)) c1 H1 (.int _) (Bt.small (int_shows (c := 9001) (by decide) (by omega)) (by simp only [PyData.depth]; omega) (Nat.le_trans (int_long (c := 9001) (by decide) (by omega)) (by decide)) (by rw [IB]; exact hz)) k1 w1 (by omega)
    -- another word
    refine seq_if (tst_and (tst_lt (m := b) rfl) fun _ => fun Q q => ⟨_, rfl, _, _, ty, _, _, rfl, .ty _, tyx, ks, _, rfl, q⟩) (fun g2 => ?_) (fun g2 => ?_)
    · refine ⟨big _ (by show (14 : Nat) ≤ 1000; decide), fun t nt => ?_⟩
      have sm := @Same.new t _ (.tup (bentW.map V.str)) nt
      refine ⟨_, rfl, _, rfl, w, t, bentW.map V.str, c1, rfl, w1.same sm, by omega, SqT.of upd_same, by decide, by decide, fun j v c2 H2 hi k2 w2 e2 => ?_⟩
      obtain ⟨x, rfl, hx⟩ := any_words hi
      have xz := of_decide_eq_true (List.all_eq_true.mp bentW_short x hx)
      exact q _ (.str x) c2 _ (.str x) (Bt.small (by simp only [PyData.showable]) (by simp only [PyData.depth]; omega) (by omega) (by rw [IB]; exact True.intro)) (k1.trans ((Kw.same sm).trans k2)) w2 (by omega)
    -- one of any kind
    refine seq_if (tst_or (tst_lt (m := b) rfl) fun _ => tst_or (tst_not fun Q q => ⟨_, rfl, _, _, ty, _, _, rfl, .ty _, tyx, kt, _, rfl, q⟩) fun g => (fun Q q => (by
      obtain ⟨ds, rfl⟩ := isTup_of (d := d) (by simpa using g)
      obtain ⟨t, xs, rfl, ft, ht, rt⟩ := hd1.tupI
      refine ⟨_, rfl, _, _, rfl, .inr ⟨_, SqT.of ht, rfl⟩, rfl, _, rfl, ?_⟩
      rw [lenZ_of rt] at q
      exact q) : Tst _ _ H1 (lenZ d))) (fun g3 => ?_) (fun g3 => ?_)
    · refine ⟨_, rfl, w, c1, rfl, w1, by omega, fun i v' e c2 H2 he de k2 w2 e2 => ?_⟩
      exact q v' e c2 H2 (de.nw w1.some) (oddq e (List.mem_of_getElem? he)) (k1.trans k2) w2 (by omega)
    simp only [Bool.or_eq_false_iff, decide_eq_false_iff_not] at g3
    obtain ⟨g4, g5, g6⟩ := g3
    obtain ⟨ds, rfl⟩ := isTup_of (d := d) (by simpa using g5)
    have dn : ds ≠ [] := fun z => by
      subst z
      cases g6
    have dl : ds.length ≠ 0 := fun z => dn (List.length_eq_zero_iff.mp z)
    have lz : 2 * ds.length ≤ szA ds := szA_len ds
    have sz0 := sz_tup ds
    have ln : ∀ {H' : Hp}, Dt (Nw w) H' v (.tuple ds) → ∃ a xs, v = .ref a ∧ SqT K H' a xs ∧ xs.length = ds.length := fun h => lenD h
    obtain ⟨a, xs, rfl, hxs, lx⟩ := ln hd1
    refine ⟨_, rfl, _, rfl, _, _, rfl, .inr ⟨_, hxs, rfl⟩, w, _, c1, rfl, w1, by omega, by omega, by omega, fun r c2 H2 r0 r1 k2 w2 e2 => ?_⟩
    have hd2 := hd1.kw k2
    have k02 := k1.trans k2
    obtain ⟨i, rfl⟩ := Int.eq_ofNat_of_zero_le r0
    have il : i < ds.length := by omega
    have hi : i ≤ ds.length := by omega
    have hm : ds.length ≤ 4000000 := by omega
    have rows : ∀ {es : List PyData}, (∀ x ∈ es, x ∈ ds) → szA es ≤ 2 * szA ds → Bt B (.tuple ds) (.tuple es) := fun h1 h2 => bt_row hsh hib dn (fun x hx => .inl (h1 x hx)) (by omega)
    obtain ⟨di, hdi⟩ : ∃ di, ds[i]? = some di := ⟨_, List.getElem?_eq_getElem il⟩
    have spl := szA_split ds i
    have atz := szA_at hdi
    refine seq_if (tst_eq (m := b) rfl) (fun g => ?_) (fun g => ?_)
    · refine del_at (K := K) (i := i) w2 rfl rfl hd2 hi hm fun v' H3 d3 s3 => ?_
      exact q v' _ c2 H3 d3 (rows (fun x hx => (List.mem_append.mp hx).elim mem_take mem_drop) (by rw [szA_app]; omega)) (k02.trans (Kw.same s3)) (w2.same s3) (by omega)
    refine seq_if (tst_eq (m := b) rfl) (fun g => ?_) (fun g => ?_)
    · refine ins_at (K := K) (i := i) (P := fun e => e = di) (C := c2) w2 rfl rfl hd2 hi hm (fun H3 s3 Q' q' => ?_) fun v' e c' H3 pe d3 k3 w3 l3 => ?_
      · exact ⟨_, rfl, _, rfl, ixD (i := i) (hd2.keep s3) hdi fun x dx => q' x di c2 H3 dx rfl (Kw.refl w H3) (w2.same s3) (Int.le_refl _)⟩
      · subst pe
        refine q v' _ c' H3 d3 (rows (fun x hx => ?_) ?_) (k02.trans k3) w3 (by omega)
        · (rcases (List.mem_append.mp hx) with hx | hx)
          · (rcases (List.mem_append.mp hx) with hx | hx)
            · exact mem_take hx
            · rw [List.mem_singleton.mp hx]
              exact List.mem_of_getElem? hdi
          · exact mem_drop hx
        · rw [szA_app, szA_app, szA_one]
          omega
    refine seq_if (tst_eq (m := b) rfl) (fun g => ?_) (fun g => ?_)
    · refine ⟨_, rfl, _, rfl, w, c2, rfl, w2, by omega, fun j v' e c3 H3 he de k3 w3 e3 => ⟨big _ (by show (1 : Nat) ≤ 1000; decide), fun p np => ?_⟩⟩
      have dv := (de.nw w2.some)
      have dp : Dt (Nw w) (upd H3 p (.tup [v'])) (.ref p) (.tuple [e]) := layD (nwF w3) np (.cons dv .nil)
      have s4 := @Same.new p _ (.tup [v']) np
      have w4 := w3.same s4
      refine catD (K := K) (nwF w4) ((hd2.kw k3).keep s4) dp (by show _ + 1 ≤ _; omega) fun v5 H5 s5 d5 => ?_
      have ob := oddq e (List.mem_of_getElem? he)
      have oh := List.all_eq_true.mp odd_sh e (List.mem_of_getElem? he)
      simp only [Bool.and_eq_true, decide_eq_true_eq] at oh
      refine q v5 _ c3 H5 d5 (bt_row hsh hib dn (fun x hx => ?_) (by rw [szA_app, szA_one]; omega)) (k02.trans (k3.trans (Kw.same (s4.trans s5)))) (w4.same s5) (by omega)
      (rcases (List.mem_append.mp hx) with hx | hx)
      · exact .inl hx
      · rw [List.mem_singleton.mp hx]
        exact .inr ⟨oh.1, oh.2.1, ob.ib⟩
    refine tst_eq (m := b) (n := 7) (i := 2) rfl _ ?_
    obtain ⟨t, ys, et, ft, ht, rt⟩ := hd2.tupI
    cases et
    by_cases g7 : b = 7
    · refine ifT (decide_eq_true g7) ⟨_, rfl, _, ys, rfl, SqT.of ht, fun p np => ?_⟩
      refine q (.ref p) (.tuple ds.reverse) c2 _ (layD (nwF w2) np rt.reverse) (rows (fun x hx => List.mem_reverse.mp hx) (by rw [szA_rev]; omega)) (k02.trans (Kw.new np)) (w2.same (Same.new np)) (by omega)
    · refine ifF (decide_eq_false g7) ⟨_, rfl, _, ys, rfl, .inr (SqT.of ht), fun p np => ?_⟩
      exact q (.ref p) (.list ds) c2 _ (.lst (nwF w2 p np) upd_same (rt.keep (Same.new np))) (bt_lst hsh hib) (k02.trans (Kw.new np)) (w2.same (Same.new np)) (by omega)
end
end J2
namespace J2
open PySem PySem.Spec PyProof.Rows L2 KB
section
variable {K : PySem.W.Frag} {mg : Str → Option Value} {base : Heap} {P : Program} {w : World}
abbrev nSpo : List Str := ["_law_well_here", "_law_thing", "_law_path", "_law_here", "_law_turn", "_law_at", "_law_whole"]
theorem scSpo : FnScope nSpo ["_law_well_here", "_law_thing"] (defScope (top 40)) := ⟨rfl, rfl, rfl, by decide +kernel, rfl, by decide +kernel, by decide +kernel⟩
theorem ok_spo {f : Addr} {fd : FuncData} (F : FnP K "_law_spoilt" (top 40) f fd) (T : Bl K mg) (hD : Has P w K mg base "_law_draw" ["_law_well_here", "_law_many"] 1 spDraw)
    (hB : Has P w K mg base "_law_bent" ["_law_well_here", "_law_thing"] 4 spBent) : FnOk P w K mg base CX0 5 f fd ["_law_well_here", "_law_thing"] spSpo := by
  obtain ⟨fD, fdD, kD, gD, bD, GD⟩ := hD
  obtain ⟨fB, fdB, kB, gB, bB, GB⟩ := hB
  refine F.ok scSpo (fun vs H Q E h => ?_) (fun cdv A outer s H vs Q E hr h => ?_)
  · obtain ⟨w, v, d, B, c, rfl, _⟩ := h
    rfl
  · obtain ⟨w, v, d, B, c, rfl, hd, hsh, hsz, hib, hB0, hB, hw, hc, q⟩ := h
    have sc := scSpo
    have hrD : Room 1 _ := hr.mono (by omega)
    have hrB : Room 4 _ := hr
    refine ⟨_, PSs.nox (pss_cons (ps_par (i := 2) (j := 3) (by rfl) sc.nd rfl rfl (by decide) rfl rfl (pa_cons (pe_lst pa_nil) (pa_cons (pv 1) pa_nil)) (by rfl)) (pss_cons (ps_for PassesOwn.never rfl (pi_range1 rfl T.range (pa_cons (pe_call GD hrD rfl gD kD bD .nil pass0 (pa_cons (pv 0) (pa_cons pe_int pa_nil))) pa_nil)) (pg_name (i := 4) sc.nd rfl (Or.inl rfl)) (pss_cons (ps_if (PW.pt (pw_or (pt_not (pt_val (pe_callB call_isi (by rfl) T.isinstance (by decide +kernel) (pa_cons (pv 3) (pa_cons (pe_bltn (v := .ty "tuple") (by rfl) T.tuple (by decide +kernel) rfl) pa_nil))))) (pw_or1 (pt_cmpR op_eq (pe_callB call_len (by rfl) T.len (by decide +kernel) (pa_cons (pv 3) pa_nil)) pe_int (nomark _))))) (pss_one ps_break) pss_nil) (pss_cons (ps_set (i := 5) sc.nd rfl (Or.inl rfl) (pe_call GD hrD rfl gD kD bD .nil pass0 (pa_cons (pv 0) (pa_cons (pe_callB call_len (by rfl) T.len (by decide +kernel) (pa_cons (pv 3) pa_nil)) pa_nil)))) (pss_cons (ps_expr (pe_bm PySem.F.plainAttrs_list PySem.F.slot_list_append PySem.F.type_list_append mt_append (pv 2) (pa_cons (pe_tup (pa_cons (pv 3) (pa_cons (pv 5) pa_nil))) pa_nil))) (pss_one (ps_set (i := 3) sc.nd rfl (Or.inl rfl) (pe_ix ix_tup (pv 3) (pv 5) (fun _ _ => rfl)))))))) (pss_cons (ps_set (i := 3) sc.nd rfl (Or.inl rfl) (pe_call GB hrB rfl gB kB bB .nil pass0 (pa_cons (pv 0) (pa_cons (pv 3) pa_nil)))) (pss_cons (ps_for PassesOwn.never rfl (pi_list (pe_revL (pv 2))) (pg_tup rfl (pgs_cons (pg_name (i := 6) sc.nd rfl (Or.inl rfl)) (pgs_cons (pg_name (i := 5) sc.nd rfl (Or.inl rfl)) pgs_nil))) (pss_one (ps_set (i := 3) sc.nd rfl (Or.inl rfl) (pe_op op_catA (pe_op op_catA (pe_slice sl_tupA (pv 6) po_none (po_some (pv 5))) (pe_tup (pa_cons (pv 3) pa_nil))) (pe_slice sl_tupA (pv 6) (po_some (pe_op op_add (pv 5) pe_int)) po_none))))) (pss_one (ps_ret (pv 3))))))), ?_⟩
    have big : ∀ k : Nat, k ≤ 1000 → k ≤ sizeLine := fun k h => Nat.le_of_lt (small1000 h)
    refine ⟨Nat.zero_le _, fun PA nP => ⟨_, rfl, _, _, rfl, ?_⟩⟩
    have s1 := @Same.new PA _ (.lst []) nP
    have hw1 := hw.same s1
    have wP : w ≠ PA := hw.ne nP
    have hP1 : (upd H PA (.lst [])) PA = some (.lst []) := upd_same
    have hd1 : Dt (Ot [PA, w]) (upd H PA (.lst [])) v d := (hd.ot.wide nP).keep s1
    have kp1 : Kp [PA, w] H (upd H PA (.lst [])) := Kp.same s1
    generalize upd H PA (.lst []) = H1 at hw1 hP1 hd1 kp1 ⊢
    refine ⟨_, rfl, w, 7, c, rfl, hw1, by omega, by decide, by decide, fun r c2 H2 r0 r1 k2 w2 e2 => ?_⟩
    have kp2 : Kp [PA, w] H H2 := kp1.trans (k2.kp (by simp))
    refine ⟨r, rfl, by omega, by omega, for_rangeB (lo := 0) (n := r.toNat) (fun i σ H3 => ∃ (u4 u5 : Option V) (hv : V) (x : PyData) (ps : List V) (rp : List (PyData × Nat)) (c3 : Int), σ = [some (.ref w), some v, some (.ref PA), some hv, u4, u5, none] ∧
      Kp [PA, w] H H3 ∧ H3 PA = some (.lst ps) ∧ DtA (Ot [PA, w]) H3 ps (rp.reverse.map pD) ∧ Dt (Ot [PA, w]) H3 hv x ∧ Ch d rp x ∧ Wl H3 w c3 ∧ c3 ≤ c + 1 + i ∧ rp.length = i)
      ⟨none, none, v, d, [], [], c2, rfl, kp2, k2 _ _ wP.symm hP1, .nil, hd1.kp (k2.kp (by simp)), rfl, w2, by omega, rfl⟩ ?_ ?_⟩
    · -- the way back
      rintro i σ H3 hi ⟨u4, u5, hv, x, ps, rp, c3, rfl, kp3, hP3, dps, dx, ch, w3, l3, len⟩
      obtain ⟨xsh, xib, xsz⟩ := ch_ok hsh hib ch
      refine ⟨_, rfl, _, rfl, w, hv, x, B, c3, rfl, dx.nwo (by simp), xsh, by omega, xib, hB0, hB, w3, by omega, fun v4 e4 c4 H4 d4 b4 k4 w4 l4 => ?_⟩
      have hP4 : H4 PA = some (.lst ps) := k4 _ _ wP.symm hP3
      refine ⟨_, rfl, PA, ps, rfl, SqL.of hP4, fun LA nL => ?_⟩
      have wL : w ≠ LA := w4.ne nL
      have hL : (upd H4 LA (.lst ps.reverse)) LA = some (.lst ps.reverse) := upd_same
      have s5 := @Same.new LA _ (.lst ps.reverse) nL
      have d5 := d4.keep s5
      have w5 := w4.same s5
      have items : DtA (Nw w) (upd H4 LA (.lst ps.reverse)) ps.reverse (rp.map pD) := by
        have h1 : DtA (Ot [PA, w]) H3 ps.reverse (rp.map pD) := by
          have := dps.reverse
          rwa [← List.map_reverse, List.reverse_reverse] at this
        have h2 : DtA (Nw w) H3 ps.reverse (rp.map pD) := h1.move fun a o f e => ⟨fun z => f (by rw [z]; simp), e⟩
        exact (h2.kw k4).keep s5
      have kp5 : Kw w H (upd H4 LA (.lst ps.reverse)) := ((Kp.thin kp3 nP).kw).trans (k4.trans (Kw.same s5))
      generalize upd H4 LA (.lst ps.reverse) = H5 at hL d5 w5 items kp5 ⊢
      refine ⟨LA, rfl, ⟨_, SqL.of hL⟩, for_list (K := K) (a := LA) (xs := ps.reverse) (fun i σ H6 => ∃ (u4 u5 u6 : Option V) (hv : V) (e tgt : PyData) (c6 : Int), σ = [some (.ref w), some v, some (.ref PA), some hv, u4, u5, u6] ∧
        Kw w H5 H6 ∧ Dt (Nw w) H6 hv e ∧ Ch d (rp.drop i) tgt ∧ Bt B tgt e ∧ Wl H6 w c6 ∧ c6 ≤ c4) ⟨_, _, _, v4, e4, x, c4, rfl, Kw.refl w H5, d5, ch, b4, w5, Int.le_refl _⟩
        (fun i σ H6 _ hP => (by
          obtain ⟨_, _, _, _, _, _, _, _, k6, _⟩ := hP
          exact SqL.of (k6 _ _ wL.symm hL))) ?_ ?_⟩
      · rintro j y σ H6 hj ⟨u4, u5, u6, hv, e, tgt, c6, rfl, k6, d6, ch6, b6, w6, l6⟩
        obtain ⟨dy, hdy, dty⟩ := items.get hj
        obtain ⟨⟨u, a⟩, hua, rfl⟩ : ∃ p, rp[j]? = some p ∧ pD p = dy := by
          rw [List.getElem?_map] at hdy
          cases e : rp[j]? with
          | none => rw [e] at hdy; cases hdy
          | some p => rw [e] at hdy; exact ⟨p, rfl, Option.some.inj hdy⟩
        obtain ⟨jl, je⟩ := List.getElem?_eq_some_iff.mp hua
        rw [List.drop_eq_getElem_cons jl, je] at ch6
        obtain ⟨⟨us, rfl, hus⟩, ch7⟩ := ch6
        obtain ⟨ush, uib, usz⟩ := ch_ok hsh hib ch7
        have ul := szA_len us
        rw [sz_tup] at usz
        obtain ⟨t, xs, rfl, ft, ht, rt⟩ := dty.tupI
        obtain ⟨uv, av, rfl, du, da⟩ := rt.two
        have ea := da.intI
        subst ea
        have du6 : Dt (Nw w) H6 uv (.tuple us) := Dt.kw du k6
        have al := (List.getElem?_eq_some_iff.mp hus).1
        refine ⟨t, _, rfl, SqT.of (k6 _ _ ft ht), rfl, _, _, rfl, _, _, rfl, rfl, ?_⟩
        refine rep_at (K := K) (i := a) (u := 6) (j := 5) (P := fun z => z = e) (C := c6) w6 rfl rfl du6 (by omega) (by omega) (fun H7 s7 Q' q' => ?_) fun v8 e8 c8 H8 pe d8 k8 w8 l8 => ?_
        · exact ⟨_, rfl, q' hv e c6 H7 (d6.keep s7) rfl (Kw.refl w H7) (w6.same s7) (Int.le_refl _)⟩
        · subst pe
          exact ⟨_, _, _, v8, _, .tuple us, c8, rfl, k6.trans k8, d8, ch7, bt_at ush uib hus b6, w8, by omega⟩
      · rintro σ H6 ⟨u4, u5, u6, hv, e, tgt, c6, rfl, k6, d6, ch6, b6, w6, l6⟩
        have ll := items.length
        rw [List.length_map] at ll
        rw [ll, List.drop_length] at ch6
        have et : tgt = d := ch6
        subst et
        exact ⟨_, rfl, q hv e c6 H6 d6 b6 (kp5.trans k6) w6 (by omega)⟩
    · -- the way down
      rintro hd i σ H3 hi ⟨u4, u5, hv, x, ps, rp, c3, rfl, kp3, hP3, dps, dx, ch, w3, l3, len⟩
      obtain ⟨xsh, xib, xsz⟩ := ch_ok hsh hib ch
      obtain ⟨ty, tyx, ki, kb, kt, ks⟩ := tyD (K := K) dx
      refine seq_if (tst_or (tst_not fun Q q => ⟨_, rfl, _, _, ty, _, _, rfl, .ty _, tyx, kt, _, rfl, q⟩) fun g => (fun Q q => (by
        obtain ⟨ds, rfl⟩ := isTup_of (d := x) (by simpa using g)
        obtain ⟨t, xs, rfl, ft, ht, rt⟩ := dx.tupI
        refine ⟨_, rfl, _, _, rfl, .inr ⟨_, SqT.of ht, rfl⟩, rfl, _, rfl, ?_⟩
        rw [lenZ_of rt] at q
        exact q) : Tst _ _ H3 (lenZ x))) (fun g => ?_) (fun g => ?_)
      · exact hd i _ H3 (by omega) ⟨_, u5, hv, x, ps, rp, c3, rfl, kp3, hP3, dps, dx, ch, w3, l3, len⟩
      · simp only [Bool.or_eq_false_iff] at g
        obtain ⟨g5, g6⟩ := g
        obtain ⟨ds, rfl⟩ := isTup_of (d := x) (by simpa using g5)
        have dn : ds.length ≠ 0 := fun z => by
          rw [List.length_eq_zero_iff.mp z] at g6
          cases g6
        have lz := szA_len ds
        rw [sz_tup] at xsz
        obtain ⟨t, xs, rfl, ft, ht, rt⟩ := dx.tupI
        have lx := rt.length
        refine ⟨_, rfl, _, rfl, _, _, rfl, .inr ⟨_, SqT.of ht, rfl⟩, w, _, c3, rfl, w3, by omega, by omega, by omega, fun a c4 H4 a0 a1 k4 w4 l4 => ?_⟩
        obtain ⟨a, rfl⟩ := Int.eq_ofNat_of_zero_le a0
        have al : a < ds.length := by omega
        have kq : Kp [PA, w] H3 H4 := k4.kp (by simp)
        have hP4 := k4 _ _ wP.symm hP3
        have ht4 := kq _ _ ft ht
        have lp := dps.length
        rw [List.length_map, List.length_reverse, len] at lp
        refine ⟨_, rfl, .inl ⟨rfl, _, SqL.of hP4⟩, _, rfl, _, rfl, big _ (by show (2 : Nat) ≤ 1000; decide), fun p np => ?_⟩
        have pP : PA ≠ p := ne_of_none hP4 np
        have pw : w ≠ p := w4.ne np
        refine ⟨PA, ps, _, rfl, rfl, by rw [upd_ne pP]; exact hP4, Nat.lt_of_le_of_lt (by omega : _ ≤ 10) (by decide), ?_⟩
        have k5 : Kp [PA, w] H4 (upd (upd H4 p (.tup [.ref t, .int a])) PA (.lst (ps ++ [.ref p]))) := (Kp.new np).trans (Kp.put (by simp))
        have ht5 := k5 _ _ ft ht4
        have hp5 : (upd (upd H4 p (.tup [.ref t, .int a])) PA (.lst (ps ++ [.ref p]))) p = some (.tup [.ref t, .int a]) := by
          rw [upd_ne (fun z => pP z.symm), upd_same]
        have w5 : Wl (upd (upd H4 p (.tup [.ref t, .int a])) PA (.lst (ps ++ [.ref p]))) w c4 := by
          obtain ⟨n, m, z, e, r⟩ := w4.same (Same.new (o := .tup [.ref t, .int a]) np)
          exact ⟨n, m, z, by rw [upd_ne wP]; exact e, r⟩
        have hP5 : (upd (upd H4 p (.tup [.ref t, .int a])) PA (.lst (ps ++ [.ref p]))) PA = some (.lst (ps ++ [.ref p])) := upd_same
        have rt5 := (rt.kp kq).kp k5
        have dps5 := (dps.kp kq).kp k5
        have fp : Ot [PA, w] p := by
          intro z
          (rcases (List.mem_cons.mp z) with z | z)
          · exact pP z.symm
          · exact pw (List.mem_singleton.mp z).symm
        generalize upd (upd H4 p (.tup [.ref t, .int a])) PA (.lst (ps ++ [.ref p])) = H5 at k5 ht5 hp5 w5 hP5 rt5 dps5 ⊢
        obtain ⟨de, hde⟩ : ∃ de, ds[a]? = some de := ⟨_, List.getElem?_eq_getElem al⟩
        obtain ⟨xe, hxe, dxe⟩ := rt5.at_ hde
        refine ⟨_, rfl, _, rfl, t, xs, _, xe, rfl, rfl, SqT.of ht5, atI_nat hxe, ?_⟩
        refine ⟨_, _, xe, de, ps ++ [.ref p], (.tuple ds, a) :: rp, c4, rfl, kp3.trans (kq.trans k5), hP5, ?_, dxe, ⟨⟨ds, rfl, hde⟩, ch⟩, w5, by omega, by rw [List.length_cons, len]⟩
        rw [List.reverse_cons, List.map_append]
        exact dps5.append (.cons (.tup fp hp5 (.cons (.tup ft ht5 rt5) (.cons (.int _) .nil))) .nil)
end
end J2
namespace KB
open PySem L2 PySem.Spec PyProof.Rows
def hd (m : Nat) (ws : List Str) : PyData → Bool
  | .tuple (x :: ds) => decide (ds.length + 1 = m) && txB x ws
  | _ => false
def isF : PyData → Bool
  | .tuple [x] => txB x ["unit", "num"]
  | .tuple [x, y] => if txB x ["var"] then txB y ["a", "b", "c"] else txB x ["list"] && isF y
  | .tuple [x, y, z] => txB x ["pair", "either", "fun"] && (isF y && isF z)
  | _ => false
def Kd.okv : Kd → Bool
  | num => true
  | unit => true
  | var x => (["a", "b", "c"] : List Str).contains x
  | lst a => a.okv
  | pair a b => a.okv && b.okv
  | eith a b => a.okv && b.okv
  | fn a b => a.okv && b.okv
theorem txB_str {d : PyData} {ws : List Str} (h : txB d ws = true) : ∃ x, d = .str x ∧ x ∈ ws := by
  cases d with
  | str x => exact ⟨x, rfl, by simpa using (show ws.contains x = true from h)⟩
  | _ => cases h
theorem isF_d : ∀ k : Kd, k.okv = true → isF k.d = true
  | .num, _ => by rw [Kd.d, isF]; rfl
  | .unit, _ => by rw [Kd.d, isF]; rfl
  | .var x, h => by rw [Kd.d, isF]; exact (if_pos (by rfl)).trans h
  | .lst a, h => by rw [Kd.d, isF, isF_d a h]; rfl
  | .pair a b, h => by
    obtain ⟨h1, h2⟩ := Bool.and_eq_true_iff.mp (show (a.okv && b.okv) = true from h)
    rw [Kd.d, isF, isF_d a h1, isF_d b h2]; rfl
  | .eith a b, h => by
    obtain ⟨h1, h2⟩ := Bool.and_eq_true_iff.mp (show (a.okv && b.okv) = true from h)
    rw [Kd.d, isF, isF_d a h1, isF_d b h2]; rfl
  | .fn a b, h => by
    obtain ⟨h1, h2⟩ := Bool.and_eq_true_iff.mp (show (a.okv && b.okv) = true from h)
    rw [Kd.d, isF, isF_d a h1, isF_d b h2]; rfl
theorem isF_ok (d : PyData) (h : isF d = true) : ∃ k : Kd, k.d = d ∧ k.okv = true := by
  match d, h with
  | .tuple [x], h =>
    rw [isF] at h
    obtain ⟨s, rfl, m⟩ := txB_str h
    rcases List.mem_cons.mp m with e | m
    · rw [e]; exact ⟨.unit, rfl, rfl⟩
    · rw [List.mem_singleton.mp m]; exact ⟨.num, rfl, rfl⟩
  | .tuple [x, y], h =>
    rw [isF] at h
    by_cases hv : txB x ["var"] = true
    · rw [if_pos hv] at h
      obtain ⟨s, rfl, m⟩ := txB_str hv
      obtain ⟨z, rfl, mz⟩ := txB_str h
      rw [List.mem_singleton.mp m]
      exact ⟨.var z, rfl, by rw [Kd.okv]; simpa using mz⟩
    · rw [if_neg hv] at h
      obtain ⟨h1, h2⟩ := Bool.and_eq_true_iff.mp h
      obtain ⟨s, rfl, m⟩ := txB_str h1
      obtain ⟨k, e, o⟩ := isF_ok y h2
      rw [List.mem_singleton.mp m]
      exact ⟨.lst k, by rw [Kd.d, e], o⟩
  | .tuple [x, y, z], h =>
    rw [isF] at h
    obtain ⟨h1, h2⟩ := Bool.and_eq_true_iff.mp h
    obtain ⟨h3, h4⟩ := Bool.and_eq_true_iff.mp h2
    obtain ⟨s, rfl, m⟩ := txB_str h1
    obtain ⟨a, ea, oa⟩ := isF_ok y h3
    obtain ⟨b, eb, ob⟩ := isF_ok z h4
    rcases List.mem_cons.mp m with e | m
    · rw [e]; exact ⟨.pair a b, by rw [Kd.d, ea, eb], by rw [Kd.okv, oa, ob]; rfl⟩
    · rcases List.mem_cons.mp m with e | m
      · rw [e]; exact ⟨.eith a b, by rw [Kd.d, ea, eb], by rw [Kd.okv, oa, ob]; rfl⟩
      · rw [List.mem_singleton.mp m]; exact ⟨.fn a b, by rw [Kd.d, ea, eb], by rw [Kd.okv, oa, ob]; rfl⟩
theorem isF_step (d : PyData) : isF d = (if hd 2 ["var"] d then (match d with | .tuple [_, y] => txB y ["a", "b", "c"] | _ => false) else if hd 2 ["list"] d then (match d with | .tuple [_, y] => isF y | _ => false) else
    if hd 3 ["pair", "either", "fun"] d then (match d with | .tuple [_, y, z] => isF y && isF z | _ => false) else hd 1 ["unit", "num"] d) := by
  match d with
  | .tuple [] => rw [isF]; rfl; all_goals (intros; rename_i z; cases z)
  | .tuple [x] => rw [isF]; simp [hd]
  | .tuple [x, y] =>
    rw [isF]
    by_cases hv : txB x ["var"] = true
    · simp [hd, hv]
    · simp only [hd, hv]
      by_cases hl : txB x ["list"] = true <;> simp [hl]
  | .tuple [x, y, z] =>
    rw [isF]
    by_cases hv : txB x ["pair", "either", "fun"] = true <;> simp [hd, hv]
  | .tuple (x :: y :: z :: u :: r) =>
    rw [isF]
    · simp [hd]
    all_goals (intros; rename_i z; cases z)
  | .none => rfl
  | .bool _ => rfl
  | .int _ => rfl
  | .str _ => rfl
  | .list _ => rfl
  | .dict _ => rfl
end KB
namespace KB
open PySem L2 PySem.Spec PyProof.Rows
def spHd (K : PySem.W.Frag) : Sp := fun vs H Q _ => ∃ (F : Addr → Prop) (v : V) (d : PyData) (m : Nat) (t : Addr) (ws : List Str), vs = [v, .int m, .ref t] ∧ 1 ≤ m ∧ Dt F H v d ∧ SqT K H t (ws.map V.str) ∧ Q (.bl (hd m ws d)) H
def spFo (n : Nat) : Sp := fun vs H Q _ => ∃ (F : Addr → Prop) (v : V) (d : PyData), vs = [v] ∧ Dt F H v d ∧ d.depth ≤ n ∧ ∀ H', Same H H' → Q (.bl (isF d)) H'
theorem hd_none {m : Nat} {ws : List Str} {d : PyData} (h : isTup d = false) : hd m ws d = false := by
  cases d <;> first | rfl | cases h
theorem hd_two {ws : List Str} {d : PyData} (h : hd 2 ws d = true) : ∃ s y, d = .tuple [.str s, y] ∧ s ∈ ws := by
  cases d with
  | tuple ds =>
    rcases ds with _ | ⟨x, _ | ⟨y, _ | ⟨z, r⟩⟩⟩ <;> first | (simp [hd] at h; done) | skip
    obtain ⟨_, h2⟩ := Bool.and_eq_true_iff.mp (show (decide ([y].length + 1 = 2) && txB x ws) = true from h)
    obtain ⟨s, rfl, m⟩ := txB_str h2
    exact ⟨s, y, rfl, m⟩
  | _ => cases h
theorem hd_three {ws : List Str} {d : PyData} (h : hd 3 ws d = true) : ∃ s y z, d = .tuple [.str s, y, z] ∧ s ∈ ws := by
  cases d with
  | tuple ds =>
    rcases ds with _ | ⟨x, _ | ⟨y, _ | ⟨z, _ | ⟨u, r⟩⟩⟩⟩ <;> first | (simp [hd] at h; done) | skip
    obtain ⟨_, h2⟩ := Bool.and_eq_true_iff.mp (show (decide ([y, z].length + 1 = 3) && txB x ws) = true from h)
    obtain ⟨s, rfl, m⟩ := txB_str h2
    exact ⟨s, y, z, rfl, m⟩
  | _ => cases h
theorem dep_mem {d : PyData} : ∀ {ds : List PyData}, d ∈ ds → d.depth ≤ PyData.depthAll ds
  | e :: ds, h => by
    simp only [PyData.depthAll]
    rcases List.mem_cons.mp h with h | h
    · rw [h]; exact Nat.le_max_left _ _
    · exact Nat.le_trans (dep_mem h) (Nat.le_max_right _ _)
theorem dep_part {d : PyData} {ds : List PyData} {n : Nat} (h : (PyData.tuple ds).depth ≤ n + 1) (m : d ∈ ds) : d.depth ≤ n := by
  have := dep_mem m
  simp only [PyData.depth] at h
  omega
theorem dep_tup {ds : List PyData} {n : Nat} (h : (PyData.tuple ds).depth ≤ n) : ∃ m, n = m + 1 := by
  simp only [PyData.depth] at h
  exact ⟨n - 1, by omega⟩
end KB
namespace J2
open PySem PySem.Spec PyProof.Rows L2 KB
section
variable {K : PySem.W.Frag} {mg : Str → Option Value} {base : Heap} {P : Program} {w : World}
abbrev nHd : List Str := ["_law_thing", "_law_many", "_law_words"]
theorem scHd : FnScope nHd ["_law_thing", "_law_many", "_law_words"] (defScope (top 32)) := ⟨rfl, rfl, rfl, by decide +kernel, rfl, by decide +kernel, by decide +kernel⟩
theorem ok_hd {f : Addr} {fd : FuncData} (F : FnP K "_law_is_headed" (top 32) f fd) (T : Bl K mg) : FnOk P w K mg base CX0 1 f fd ["_law_thing", "_law_many", "_law_words"] (spHd K) := by
  refine F.ok scHd (fun vs H Q E h => ?_) (fun cdv A outer s H vs Q E hr h => ?_)
  · obtain ⟨F, v, d, m, t, ws, rfl, _⟩ := h
    rfl
  · obtain ⟨Fa, v, d, m, t, ws, rfl, hm, hdt, ht, q⟩ := h
    have sc := scHd
    refine ⟨_, PSs.nox (pss_cons (ps_if (PW.pt (pw_or (pt_not (pt_val (pe_callB call_isi (by rfl) T.isinstance (by decide +kernel) (pa_cons (pv 0) (pa_cons (pe_bltn (v := .ty "tuple") (by rfl) T.tuple (by decide +kernel) rfl) pa_nil))))) (pw_or (pt_cmpR op_ne (pe_callB call_len (by rfl) T.len (by decide +kernel) (pa_cons (pv 0) pa_nil)) (pv 1) (nomark _)) (pw_or1 (pt_cmpR op_eq (pv 1) pe_int (nomark _)))))) (pss_one (ps_ret pe_bl)) pss_nil) (pss_one (ps_ret (pe_and (pe_callB call_isi (by rfl) T.isinstance (by decide +kernel) (pa_cons (pe_ix ix_tup (pv 0) pe_int (fun _ _ => rfl)) (pa_cons (pe_bltn (v := .ty "str") (by rfl) T.str (by decide +kernel) rfl) pa_nil))) (pe_one (pe_cmpR op_in_seq (pe_ix ix_tup (pv 0) pe_int (fun _ _ => rfl)) (pv 2) (by rfl))))))), ?_⟩
    obtain ⟨ty, tyx, ki, kb, kt, ks⟩ := tyD (K := K) hdt
    refine ⟨_, rfl, _, _, ty, _, _, rfl, .ty _, tyx, kt, _, rfl, ?_⟩
    cases it : isTup d with
    | false =>
      refine ifT rfl ?_
      have e := hd_none (m := m) (ws := ws) it
      rw [e] at q
      exact q
    | true =>
      obtain ⟨ds, rfl⟩ := isTup_of it
      obtain ⟨a, xs, rfl, fa, ha, r⟩ := hdt.tupI
      have ll := r.length
      refine ifF rfl ?_
      refine ⟨_, rfl, _, _, rfl, .inr ⟨_, SqT.of ha, rfl⟩, _, rfl, rfl, _, rfl, ite2 (fun g => ?_) (fun g => ?_)⟩
      · have ne : ds.length ≠ m := fun z => by
          have : ¬ (V.int ((xs.length : Nat) : Int) = V.int (m : Int)) := of_decide_eq_false (by simpa using g)
          exact this (by rw [ll, z])
        have e : hd m ws (.tuple ds) = false := by
          cases ds with
          | nil => rfl
          | cons x ds' =>
            show (decide (ds'.length + 1 = m) && _) = false
            rw [decide_eq_false (by simpa using ne)]
            rfl
        rw [e] at q
        exact q
      · have eq : ds.length = m := by
          have := V.int.inj (show V.int ((xs.length : Nat) : Int) = V.int (m : Int) by simpa using g)
          omega
        refine ⟨_, rfl, rfl, _, rfl, ifF (decide_eq_false fun z => by have := V.int.inj z; omega) ?_⟩
        cases r with
        | nil =>
          exfalso
          rw [List.length_nil] at eq
          omega
        | @cons x xs' dx ds' h0 r' =>
        obtain ⟨ty0, tyx0, _, _, _, k40⟩ := tyD (K := K) h0
        have e1 : hd m ws (.tuple (dx :: ds')) = txB dx ws := by
          show (decide (ds'.length + 1 = m) && _) = _
          rw [decide_eq_true (by simpa using eq)]
          rfl
        rw [e1] at q
        refine ⟨_, rfl, a, _, 0, _, rfl, rfl, SqT.of ha, atI_nat (j := 0) rfl, _, _, ty0, _, _, rfl, .ty _, tyx0, k40, _, rfl, ?_⟩
        cases h0 with
        | str x =>
          refine ifT rfl ⟨_, rfl, a, _, 0, _, rfl, rfl, SqT.of ha, atI_nat (j := 0) rfl, _, rfl, t, _, rfl, .inr ht, rfl, flat_strs _, ?_⟩
          have e : txB (.str x) ws = inV (.str x) (ws.map V.str) := (inV_str x ws).symm
          rw [e] at q
          exact q
        | int i => exact ifF rfl q
        | bl b => exact ifF rfl q
        | non => exact ifF rfl q
        | lst f h r => exact ifF rfl q
        | tup f h r => exact ifF rfl q
        | emp f h => exact ifF rfl q
abbrev nFo : List Str := ["_law_thing"]
theorem scFo : FnScope nFo ["_law_thing"] (defScope (top 33)) := ⟨rfl, rfl, rfl, by decide +kernel, rfl, by decide +kernel, by decide +kernel⟩
theorem fo_body (n : Nat) {f : Addr} {fd : FuncData} {spR : Sp} (F : FnP K "_law_is_formed" (top 33) f fd) (T : Bl K mg) (hH : Has P w K mg base "_law_is_headed" ["_law_thing", "_law_many", "_law_words"] 1 (spHd K))
    (gR : mg "_law_is_formed" = some (.ref f)) (bR : Binds K fd ["_law_thing"] []) (GR : FnOk P w K mg base CX0 (1 + n) f fd ["_law_thing"] spR)
    (hR : ∀ m, n = m + 1 → ∀ vs H Q, spFo m vs H Q E0 → spR vs H Q E0) : FnOk P w K mg base CX0 (1 + n + 1) f fd ["_law_thing"] (spFo n) := by
  obtain ⟨fH, fdH, kH, gH, bH, GH⟩ := hH
  refine F.ok scFo (fun vs H Q E h => ?_) (fun cdv A outer s H vs Q E hr h => ?_)
  · obtain ⟨F, v, d, rfl, _⟩ := h
    rfl
  · obtain ⟨Fa, v, d, rfl, hd0, hdp, q⟩ := h
    have sc := scFo
    have hrH : Room 1 _ := hr.mono (by omega)
    have hrR : Room (1 + n) _ := hr
    refine ⟨_, PSs.nox (pss_cons (ps_if (pt_val (pe_call GH hrH rfl gH kH bH .nil pass0 (pa_cons (pv 0) (pa_cons pe_int (pa_cons (pe_tup (pa_cons pe_str pa_nil)) pa_nil))))) (pss_one (ps_ret (pe_and (pe_callB call_isi (by rfl) T.isinstance (by decide +kernel) (pa_cons (pe_ix ix_tup (pv 0) pe_int (fun _ _ => rfl)) (pa_cons (pe_bltn (v := .ty "str") (by rfl) T.str (by decide +kernel) rfl) pa_nil))) (pe_one (pe_cmpR op_in_seq (pe_ix ix_tup (pv 0) pe_int (fun _ _ => rfl)) (pe_tup (pa_cons pe_str (pa_cons pe_str (pa_cons pe_str pa_nil)))) (by rfl)))))) pss_nil) (pss_cons (ps_if (pt_val (pe_call GH hrH rfl gH kH bH .nil pass0 (pa_cons (pv 0) (pa_cons pe_int (pa_cons (pe_tup (pa_cons pe_str pa_nil)) pa_nil))))) (pss_one (ps_ret (pe_call GR hrR rfl gR F.kp bR .nil pass0 (pa_cons (pe_ix ix_tup (pv 0) pe_int (fun _ _ => rfl)) pa_nil)))) pss_nil) (pss_cons (ps_if (pt_val (pe_call GH hrH rfl gH kH bH .nil pass0 (pa_cons (pv 0) (pa_cons pe_int (pa_cons (pe_tup (pa_cons pe_str (pa_cons pe_str (pa_cons pe_str pa_nil)))) pa_nil))))) (pss_one (ps_ret (pe_and (pe_call GR hrR rfl gR F.kp bR .nil pass0 (pa_cons (pe_ix ix_tup (pv 0) pe_int (fun _ _ => rfl)) pa_nil)) (pe_one (pe_call GR hrR rfl gR F.kp bR .nil pass0 (pa_cons (pe_ix ix_tup (pv 0) pe_int (fun _ _ => rfl)) pa_nil)))))) pss_nil) (pss_one (ps_ret (pe_call GH hrH rfl gH kH bH .nil pass0 (pa_cons (pv 0) (pa_cons pe_int (pa_cons (pe_tup (pa_cons pe_str (pa_cons pe_str pa_nil))) pa_nil))))))))), ?_⟩
    have big : ∀ k : Nat, k ≤ 1000 → k ≤ sizeLine := fun k h => Nat.le_of_lt (small1000 h)
    have st := isF_step d
    refine ⟨_, rfl, big _ (by show (1 : Nat) ≤ 1000; decide), fun t1 n1 => ?_⟩
    have s1 := @Same.new t1 _ (.tup [.str "var"]) n1
    refine ⟨Fa, v, d, 2, t1, ["var"], rfl, by decide, hd0.keep s1, SqT.of upd_same, ⟨_, rfl, ite2 (fun g => ?_) (fun g => ?_)⟩⟩
    · -- a variable
      rw [if_pos g] at st
      obtain ⟨s0, y, rfl, _⟩ := hd_two g
      obtain ⟨a, xs, rfl, fa, ha, r⟩ := hd0.tupI
      obtain ⟨x0, v1, rfl, d0, d1⟩ := r.two
      have ha1 := s1 _ _ ha
      have d11 := d1.keep s1
      have qq : ∀ H', Same H H' → Q (.bl (txB y ["a", "b", "c"])) H' := fun H' s' => by have := q H' s'; rwa [st] at this
      obtain ⟨ty0, tyx0, _, _, _, k40⟩ := tyD (K := K) d11
      refine ⟨_, rfl, a, _, 1, _, rfl, rfl, SqT.of ha1, rfl, _, _, ty0, _, _, rfl, .ty _, tyx0, k40, _, rfl, ?_⟩
      cases d11 with
      | str x =>
        refine ifT rfl ⟨_, rfl, a, _, 1, _, rfl, rfl, SqT.of ha1, rfl, big _ (by show (3 : Nat) ≤ 1000; decide), fun t2 n2 => ?_⟩
        have s2 := @Same.new t2 _ (.tup [.str "a", .str "b", .str "c"]) n2
        refine ⟨t2, _, rfl, .inr (SqT.of upd_same), rfl, rfl, ?_⟩
        have e : txB (.str x) ["a", "b", "c"] = inV (.str x) ((["a", "b", "c"] : List Str).map V.str) := (inV_str x _).symm
        have := qq _ (s1.trans s2)
        rw [e] at this
        exact this
      | int i => exact ifF rfl (qq _ s1)
      | bl b => exact ifF rfl (qq _ s1)
      | non => exact ifF rfl (qq _ s1)
      | lst f h r => exact ifF rfl (qq _ s1)
      | tup f h r => exact ifF rfl (qq _ s1)
      | emp f h => exact ifF rfl (qq _ s1)
    · rw [if_neg g] at st
      generalize (upd H t1 (.tup [.str "var"])) = H1 at s1 ⊢
      refine ⟨_, rfl, big _ (by show (1 : Nat) ≤ 1000; decide), fun t2 n2 => ?_⟩
      have s2 := s1.trans (@Same.new t2 _ (.tup [.str "list"]) n2)
      refine ⟨Fa, v, d, 2, t2, ["list"], rfl, by decide, hd0.keep s2, SqT.of upd_same, ⟨_, rfl, ite2 (fun g2 => ?_) (fun g2 => ?_)⟩⟩
      · rw [if_pos g2] at st
        obtain ⟨s0, y, rfl, _⟩ := hd_two g2
        obtain ⟨m, rfl⟩ := dep_tup hdp
        obtain ⟨a, xs, rfl, fa, ha, r⟩ := hd0.tupI
        obtain ⟨x0, v1, rfl, d0, d1⟩ := r.two
        refine ⟨_, rfl, a, _, 1, _, rfl, rfl, SqT.of (s2 _ _ ha), rfl, hR m rfl _ _ _ ⟨Fa, v1, y, rfl, d1.keep s2, dep_part hdp (by simp), fun H' s' => ?_⟩⟩
        have := q H' (s2.trans s')
        rwa [st] at this
      · rw [if_neg g2] at st
        generalize (upd H1 t2 (.tup [.str "list"])) = H2 at s2 ⊢
        refine ⟨_, rfl, big _ (by show (3 : Nat) ≤ 1000; decide), fun t3 n3 => ?_⟩
        have s3 := s2.trans (@Same.new t3 _ (.tup [.str "pair", .str "either", .str "fun"]) n3)
        refine ⟨Fa, v, d, 3, t3, ["pair", "either", "fun"], rfl, by decide, hd0.keep s3, SqT.of upd_same, ⟨_, rfl, ite2 (fun g3 => ?_) (fun g3 => ?_)⟩⟩
        · rw [if_pos g3] at st
          obtain ⟨s0, y, z, rfl, _⟩ := hd_three g3
          obtain ⟨m, rfl⟩ := dep_tup hdp
          obtain ⟨a, xs, rfl, fa, ha, r⟩ := hd0.tupI
          obtain ⟨x0, v1, v2, rfl, d0, d1, d2⟩ := r.three
          have ha3 := s3 _ _ ha
          refine ⟨_, rfl, a, _, 1, _, rfl, rfl, SqT.of ha3, rfl, hR m rfl _ _ _ ⟨Fa, v1, y, rfl, d1.keep s3, dep_part hdp (by simp), fun H4 s4 => ⟨_, rfl, ?_⟩⟩⟩
          cases ey : isF y with
          | false =>
            refine ifF rfl ?_
            have := q H4 (s3.trans s4)
            rw [st] at this
            simp only [ey, Bool.false_and] at this
            exact this
          | true =>
            refine ifT rfl ?_
            refine ⟨_, rfl, a, _, 2, _, rfl, rfl, SqT.of (s4 _ _ ha3), rfl, hR m rfl _ _ _ ⟨Fa, v2, z, rfl, (d2.keep s3).keep s4, dep_part hdp (by simp), fun H5 s5 => ?_⟩⟩
            have := q H5 (s3.trans (s4.trans s5))
            rw [st] at this
            simp only [ey, Bool.true_and] at this
            exact this
        · rw [if_neg g3] at st
          generalize (upd H2 t3 (.tup [.str "pair", .str "either", .str "fun"])) = H3 at s3 ⊢
          refine ⟨_, rfl, big _ (by show (2 : Nat) ≤ 1000; decide), fun t4 n4 => ?_⟩
          have s4 := s3.trans (@Same.new t4 _ (.tup [.str "unit", .str "num"]) n4)
          refine ⟨Fa, v, d, 1, t4, ["unit", "num"], rfl, by decide, hd0.keep s4, SqT.of upd_same, ?_⟩
          have := q _ s4
          rwa [st] at this
theorem ok_fo {f : Addr} {fd : FuncData} (F : FnP K "_law_is_formed" (top 33) f fd) (T : Bl K mg) (hH : Has P w K mg base "_law_is_headed" ["_law_thing", "_law_many", "_law_words"] 1 (spHd K))
    (gR : mg "_law_is_formed" = some (.ref f)) (bR : Binds K fd ["_law_thing"] []) : ∀ n : Nat, FnOk P w K mg base CX0 (1 + n + 1) f fd ["_law_thing"] (spFo n)
  | 0 => fo_body 0 (spR := fun _ _ _ _ => False) F T hH gR bR ⟨fun _ _ _ _ h => h.elim, fun _ _ _ _ _ _ _ _ _ _ _ _ _ h => h.elim⟩ fun m e => by cases e
  | n + 1 => fo_body (n + 1) F T hH gR bR (ok_fo F T hH gR bR n) fun m e => by cases e; exact fun _ _ _ h => h
end
end J2
namespace KB
open PySem L2 PySem.Spec PyProof.Rows
def spDe (n : Nat) : Sp := fun vs H Q _ => ∃ (F : Addr → Prop) (v : V) (k : Kd), vs = [v] ∧ Dt F H v k.d ∧ k.dep ≤ n ∧ ∀ H', Same H H' → Q (.int k.dep) H'
def Kd.wl : Kd → List Str
  | num => ["num"]
  | unit => ["unit"]
  | var x => [x]
  | lst a => "list" :: a.wl
  | pair a b => "pair" :: (a.wl ++ b.wl)
  | eith a b => "either" :: (a.wl ++ b.wl)
  | fn a b => "fun" :: (a.wl ++ b.wl)
def Kd.isVar : Kd → Bool
  | var _ => true
  | _ => false
theorem Kd.wl_len : ∀ k : Kd, k.wl.length = k.kz
  | .num => rfl
  | .unit => rfl
  | .var _ => rfl
  | .lst a => by simp [Kd.wl, Kd.kz, Kd.wl_len a]
  | .pair a b => by simp [Kd.wl, Kd.kz, Kd.wl_len a, Kd.wl_len b]
  | .eith a b => by simp [Kd.wl, Kd.kz, Kd.wl_len a, Kd.wl_len b]
  | .fn a b => by simp [Kd.wl, Kd.kz, Kd.wl_len a, Kd.wl_len b]
theorem Kd.d_eqv : ∀ {k : Kd}, k.isVar = false → k.d = .tuple (.str k.word :: k.kids.map Kd.d) ∧ k.wl = k.word :: (k.kids.map Kd.wl).flatten
  | .num, _ => ⟨rfl, rfl⟩
  | .unit, _ => ⟨rfl, rfl⟩
  | .var _, h => by cases h
  | .lst a, _ => ⟨rfl, by simp [Kd.wl, Kd.kids, Kd.word]⟩
  | .pair a b, _ => ⟨rfl, by simp [Kd.wl, Kd.kids, Kd.word]⟩
  | .eith a b, _ => ⟨rfl, by simp [Kd.wl, Kd.kids, Kd.word]⟩
  | .fn a b, _ => ⟨rfl, by simp [Kd.wl, Kd.kids, Kd.word]⟩
theorem Kd.word_var : ∀ {k : Kd}, k.isVar = false → k.word ≠ "var"
  | .num, _ => by show ("num" : Str) ≠ "var"; decide
  | .unit, _ => by show ("unit" : Str) ≠ "var"; decide
  | .var x, h => by cases h
  | .lst a, _ => by show ("list" : Str) ≠ "var"; decide
  | .pair a b, _ => by show ("pair" : Str) ≠ "var"; decide
  | .eith a b, _ => by show ("either" : Str) ≠ "var"; decide
  | .fn a b, _ => by show ("fun" : Str) ≠ "var"; decide
theorem Kd.kids_dep : ∀ {k : Kd}, ∀ x ∈ k.kids, x.dep + 1 ≤ k.dep
  | .num => fun x h => by cases h
  | .unit => fun x h => by cases h
  | .var _ => fun x h => by cases h
  | .lst a => fun x h => by
    rw [List.mem_singleton.mp h]
    exact Nat.le_refl _
  | .pair a b => fun x h => by
    have e : (Kd.pair a b).dep = max a.dep b.dep + 1 := rfl
    rcases List.mem_cons.mp h with h | h
    · rw [h]; omega
    · rw [List.mem_singleton.mp h]; omega
  | .eith a b => fun x h => by
    have e : (Kd.eith a b).dep = max a.dep b.dep + 1 := rfl
    rcases List.mem_cons.mp h with h | h
    · rw [h]; omega
    · rw [List.mem_singleton.mp h]; omega
  | .fn a b => fun x h => by
    have e : (Kd.fn a b).dep = max a.dep b.dep + 1 := rfl
    rcases List.mem_cons.mp h with h | h
    · rw [h]; omega
    · rw [List.mem_singleton.mp h]; omega
theorem wls_len : ∀ ks : List Kd, ((ks.map Kd.wl).flatten).length = (ks.map Kd.kz).sum
  | [] => rfl
  | k :: ks => by
    rw [List.map_cons, List.flatten_cons, List.length_append, wls_len ks, k.wl_len, List.map_cons, List.sum_cons]
theorem wls_take (ks : List Kd) (i : Nat) : (((ks.take i).map Kd.wl).flatten).length ≤ (ks.map Kd.kz).sum := by
  rw [wls_len]
  have : (ks.map Kd.kz).sum = ((ks.take i ++ ks.drop i).map Kd.kz).sum := by rw [List.take_append_drop]
  rw [this, List.map_append, List.sum_append]
  exact Nat.le_add_right _ _
theorem kz_mem {k : Kd} : ∀ {ks : List Kd}, k ∈ ks → k.kz ≤ (ks.map Kd.kz).sum
  | e :: ks, h => by
    (rw [List.map_cons, List.sum_cons])
    rcases List.mem_cons.mp h with h | h
    · rw [h]; omega
    · have := kz_mem h
      omega
def leafs : List Str := ["var", "unit", "num"]
def deps (ks : List Kd) : List Int := ks.map fun x => (x.dep : Int)
theorem kd_split (k : Kd) : (inV (.str k.word) (leafs.map V.str) = true ∧ k.dep = 1 ∧ ∃ ds, k.d = .tuple (.str k.word :: ds)) ∨
    (inV (.str k.word) (leafs.map V.str) = false ∧ k.d = .tuple (.str k.word :: k.kids.map Kd.d) ∧ 0 < k.kids.length ∧ ∀ m : Int, m ∈ deps k.kids → (∀ y, y ∈ deps k.kids → y ≤ m) → 1 + m = (k.dep : Int)) := by
  have two : ∀ (a b : Kd) (m : Int), m ∈ deps [a, b] → (∀ y, y ∈ deps [a, b] → y ≤ m) → 1 + m = ((max a.dep b.dep + 1 : Nat) : Int) := fun a b m h1 h2 => by
    have ha := h2 (a.dep : Int) List.mem_cons_self
    have hb := h2 (b.dep : Int) (List.mem_cons_of_mem _ List.mem_cons_self)
    have ha' : (a.dep : Int) ≤ m := ha
    have hb' : (b.dep : Int) ≤ m := hb
    rcases List.mem_cons.mp h1 with h | h
    · have h' : m = (a.dep : Int) := h
      omega
    · have h' : m = (b.dep : Int) := List.mem_singleton.mp h
      omega
  cases k with
  | num => exact .inl ⟨by decide, rfl, _, rfl⟩
  | unit => exact .inl ⟨by decide, rfl, _, rfl⟩
  | var x => exact .inl ⟨by rfl, rfl, _, rfl⟩
  | lst a =>
    refine .inr ⟨by rfl, rfl, Nat.zero_lt_one, fun m h1 _ => ?_⟩
    rw [List.mem_singleton.mp h1]
    show 1 + (a.dep : Int) = ((a.dep + 1 : Nat) : Int)
    omega
  | pair a b => exact .inr ⟨by rfl, rfl, by show 0 < 2; decide, two a b⟩
  | eith a b => exact .inr ⟨by rfl, rfl, by show 0 < 2; decide, two a b⟩
  | fn a b => exact .inr ⟨by rfl, rfl, by show 0 < 2; decide, two a b⟩
def isK (d : PyData) : Bool := isF d && decide (d.depth ≤ 100)
theorem Kd.depth : ∀ k : Kd, k.d.depth = k.dep
  | .num => by simp [Kd.d, Kd.dep, PyData.depth, PyData.depthAll]
  | .unit => by simp [Kd.d, Kd.dep, PyData.depth, PyData.depthAll]
  | .var _ => by simp [Kd.d, Kd.dep, PyData.depth, PyData.depthAll]
  | .lst a => by simp [Kd.d, Kd.dep, PyData.depth, PyData.depthAll, Kd.depth a]
  | .pair a b => by simp [Kd.d, Kd.dep, PyData.depth, PyData.depthAll, Kd.depth a, Kd.depth b]
  | .eith a b => by simp [Kd.d, Kd.dep, PyData.depth, PyData.depthAll, Kd.depth a, Kd.depth b]
  | .fn a b => by simp [Kd.d, Kd.dep, PyData.depth, PyData.depthAll, Kd.depth a, Kd.depth b]
theorem isK_ok {d : PyData} (h : isK d = true) : ∃ k : Kd, k.d = d ∧ k.okv = true ∧ k.dep ≤ 100 := by
  obtain ⟨h1, h2⟩ := Bool.and_eq_true_iff.mp h
  obtain ⟨k, rfl, o⟩ := isF_ok d h1
  have h3 := of_decide_eq_true h2
  rw [Kd.depth] at h3
  exact ⟨k, rfl, o, h3⟩
def spIk (n : Nat) : Sp := fun vs H Q _ => ∃ (F : Addr → Prop) (v : V) (d : PyData), vs = [v] ∧ Dt F H v d ∧ d.depth ≤ n ∧ ∀ H', Same H H' → Q (.bl (isK d)) H'
def spWi (n : Nat) : Sp := fun vs H Q _ => ∃ (F : Addr → Prop) (v : V) (k : Kd), vs = [v] ∧ Dt F H v k.d ∧ k.dep ≤ n ∧ k.kz ≤ 4000000 ∧ ∀ (p : Addr) (H' : Hp), H p = none → Same H H' → H' p = some (.lst (k.wl.map V.str)) → Q (.ref p) H'
end KB
namespace J2
open PySem PySem.Spec PyProof.Rows L2 KB
section
variable {K : PySem.W.Frag} {mg : Str → Option Value} {base : Heap} {P : Program} {w : World}
abbrev nDe : List Str := ["_law_kind_here", "_law_part"]
theorem scDe : FnScope nDe ["_law_kind_here"] (defScope (top 34)) := ⟨rfl, rfl, rfl, by decide +kernel, rfl, by decide +kernel, by decide +kernel⟩
theorem de_body (n : Nat) {f : Addr} {fd : FuncData} {spR : Sp} (F : FnP K "_law_deep_kind" (top 34) f fd) (T : Bl K mg)
    (gR : mg "_law_deep_kind" = some (.ref f)) (bR : Binds K fd ["_law_kind_here"] []) (GR : FnOk P w K mg base CX0 (1 + n) f fd ["_law_kind_here"] spR)
    (hR : ∀ m, n = m + 1 → ∀ vs H Q, spDe m vs H Q E0 → spR vs H Q E0) : FnOk P w K mg base CX0 (1 + n + 1) f fd ["_law_kind_here"] (spDe n) := by
  refine F.ok scDe (fun vs H Q E h => ?_) (fun cdv A outer s H vs Q E hr h => ?_)
  · obtain ⟨F, v, k, rfl, _⟩ := h
    rfl
  · obtain ⟨Fa, v, k, rfl, hk0, hdp, q⟩ := h
    have sc := scDe
    have hrR : Room (1 + n) _ := hr
    have hk : Dt (Ot []) H v k.d := hk0.any
    have stN : ∀ (H' : Hp) p, H' p = none → Ot [] p := fun _ p _ z => by cases z
    refine ⟨_, PSs.nox (pss_cons (ps_if (pt_cmpR op_in_seq (pe_ix ix_tup (pv 0) pe_int (fun _ _ => rfl)) (pe_tup (pa_cons pe_str (pa_cons pe_str (pa_cons pe_str pa_nil)))) (by rfl)) (pss_one (ps_ret pe_int)) pss_nil) (pss_one (ps_ret (pe_op op_add pe_int (pe_callB (cr_max rfl) (by rfl) T.max (by decide +kernel) (pa_cons (pe_lc (own := [("_law_part", 1)]) (g := gName 1) (tt := tYes) (by rfl) sc.nd (pi_tup (pe_slice sl_tupA (pv 0) (po_some pe_int) po_none)) (blkOk_by (own := [("_law_part", 1)]) (N := nDe) (sc := (defScope (top 34))) (by decide +kernel)) (fun _ _ _ _ _ => (pg_name (i := 1) sc.nd rfl (Or.inl rfl))) (fun _ _ _ _ _ => pts_nil) (fun _ _ _ _ _ => (pe_call GR hrR rfl gR F.kp bR .nil pass0 (pa_cons (pv 1) pa_nil)))) pa_nil)))))), ?_⟩
    have big : ∀ k : Nat, k ≤ 1000 → k ≤ sizeLine := fun k h => Nat.le_of_lt (small1000 h)
    have hkd := hk
    rcases kd_split k with ⟨e1, e2, ds, e3⟩ | ⟨e1, e3, e4, e5⟩
    · rw [e3] at hk
      obtain ⟨a, xs, rfl, fa, ha, r⟩ := hk.tupI
      cases r with
      | @cons x xs' _ _ h0 r' =>
      have e0 := h0.strI
      subst e0
      refine ⟨_, rfl, a, _, 0, _, rfl, rfl, SqT.of ha, atI_nat (j := 0) rfl, big _ (by show (3 : Nat) ≤ 1000; decide), fun t1 n1 => ?_⟩
      have s1 := @Same.new t1 _ (.tup (leafs.map V.str)) n1
      refine ⟨t1, _, rfl, .inr (SqT.of upd_same), rfl, rfl, _, rfl, ifT e1 ?_⟩
      have := q _ s1
      rw [e2] at this
      exact this
    · rw [e3] at hk
      obtain ⟨a, xs, rfl, fa, ha, r⟩ := id hk.tupI
      cases r with
      | @cons x xs' _ _ h0 r' =>
      have e0 := h0.strI
      subst e0
      refine ⟨_, rfl, a, _, 0, _, rfl, rfl, SqT.of ha, atI_nat (j := 0) rfl, big _ (by show (3 : Nat) ≤ 1000; decide), fun t1 n1 => ?_⟩
      have s1 := @Same.new t1 _ (.tup (leafs.map V.str)) n1
      refine ⟨t1, _, rfl, .inr (SqT.of upd_same), rfl, rfl, _, rfl, ifF e1 ?_⟩
      have hk1 := hk.keep s1
      refine slC (K := K) 1 (stN _) rfl hk1 fun u HD sD dD => ?_
      have sHD := s1.trans sD
      obtain ⟨b, xs, rfl, fb, hb, rb⟩ := dD.tupI
      have rb' : DtA (Ot []) HD xs (k.kids.map Kd.d) := rb
      have lx := rb'.length
      rw [List.length_map] at lx
      have k2l := Kd.kids_len k
      refine ⟨b, rfl, ⟨_, SqT.of hb⟩, fun D nD => lc_tup (K := K) (a := b) (xs := xs) (fun i H2 => H2 D = some (.lst ((deps (k.kids.take i)).map V.int)) ∧ Same HD H2) ⟨upd_same, Same.new nD⟩
        (fun i H2 _ hP => SqT.of (hP.2 b _ hb)) ?_ ?_⟩
      · rintro i x H2 hi ⟨hD, sm⟩
        obtain ⟨dd, hdd, dx⟩ := rb'.get hi
        obtain ⟨k2, hk2, rfl⟩ : ∃ k2, k.kids[i]? = some k2 ∧ k2.d = dd := by
          rw [List.getElem?_map] at hdd
          cases e : k.kids[i]? with
          | none => rw [e] at hdd; cases hdd
          | some k2 => rw [e] at hdd; exact ⟨k2, rfl, Option.some.inj hdd⟩
        have kl := Kd.kids_dep k2 (List.mem_of_getElem? hk2)
        (obtain ⟨m, rfl⟩ : ∃ m, n = m + 1 := ⟨n - 1, by omega⟩)
        refine ⟨rfl, ?_⟩
        refine iteT (B := H2 D = some (.lst ((deps (k.kids.take (i + 1))).map V.int)) ∧ Same HD H2) ?_
        refine ⟨_, rfl, hR m rfl _ _ _ ⟨_, x, k2, rfl, dx.keep sm, by omega, fun H3 s3 => ?_⟩⟩
        refine ⟨_, s3 _ _ hD, Nat.lt_of_le_of_lt (by rw [deps, List.length_map, List.length_map, List.length_take]; omega : _ ≤ 10) (by decide), ?_, fun c o e => ?_⟩
        · rw [upd_same, deps, deps, List.take_add_one, hk2, List.map_append, List.map_append]
          rfl
        · rw [upd_ne (ne_of_none e nD)]
          exact s3 c o (sm c o e)
      · rintro H2 ⟨hD, sm⟩
        rw [lx, List.take_length] at hD
        refine ⟨D, _, rfl, SqL.of hD, by rw [deps, List.length_map]; exact e4, fun m h1 h2 => ⟨_, _, rfl, rfl, ?_⟩⟩
        have := q H2 (sHD.trans sm)
        rw [← e5 m h1 h2] at this
        exact this
theorem ok_de {f : Addr} {fd : FuncData} (F : FnP K "_law_deep_kind" (top 34) f fd) (T : Bl K mg)
    (gR : mg "_law_deep_kind" = some (.ref f)) (bR : Binds K fd ["_law_kind_here"] []) : ∀ n : Nat, FnOk P w K mg base CX0 (1 + n + 1) f fd ["_law_kind_here"] (spDe n)
  | 0 => de_body 0 (spR := fun _ _ _ _ => False) F T gR bR ⟨fun _ _ _ _ h => h.elim, fun _ _ _ _ _ _ _ _ _ _ _ _ _ h => h.elim⟩ fun m e => by cases e
  | n + 1 => de_body (n + 1) F T gR bR (ok_de F T gR bR n) fun m e => by cases e; exact fun _ _ _ h => h
abbrev nIk : List Str := ["_law_thing"]
theorem scIk : FnScope nIk ["_law_thing"] (defScope (top 35)) := ⟨rfl, rfl, rfl, by decide +kernel, rfl, by decide +kernel, by decide +kernel⟩
theorem ok_ik (n : Nat) {f : Addr} {fd : FuncData} (F : FnP K "_law_is_kind" (top 35) f fd) (hF : Has P w K mg base "_law_is_formed" ["_law_thing"] (1 + n + 1) (spFo n))
    (hD : Has P w K mg base "_law_deep_kind" ["_law_kind_here"] (1 + n + 1) (spDe n)) : FnOk P w K mg base CX0 (1 + n + 2) f fd ["_law_thing"] (spIk n) := by
  obtain ⟨fF, fdF, kF, gF, bF, GF⟩ := hF
  obtain ⟨fD, fdD, kD, gD, bD, GD⟩ := hD
  refine F.ok scIk (fun vs H Q E h => ?_) (fun cdv A outer s H vs Q E hr h => ?_)
  · obtain ⟨F, v, d, rfl, _⟩ := h
    rfl
  · obtain ⟨Fa, v, d, rfl, hd, hdp, q⟩ := h
    have sc := scIk
    have hrF : Room (1 + n + 1) _ := hr
    have hrD : Room (1 + n + 1) _ := hr
    refine ⟨_, PSs.nox (pss_one (ps_ret (pe_and (pe_call GF hrF rfl gF kF bF .nil pass0 (pa_cons (pv 0) pa_nil)) (pe_one (pe_cmpR op_le (pe_call GD hrD rfl gD kD bD .nil pass0 (pa_cons (pv 0) pa_nil)) pe_int (nomark _)))))), ?_⟩
    refine ⟨_, rfl, Fa, v, d, rfl, hd, hdp, fun H1 s1 => ⟨_, rfl, ?_⟩⟩
    cases e : isF d with
    | false =>
      refine ifF rfl ?_
      have := q H1 s1
      rw [isK, e] at this
      exact this
    | true =>
      refine ifT rfl ?_
      obtain ⟨k, rfl, o⟩ := isF_ok d e
      have kd := Kd.depth k
      refine ⟨_, rfl, Fa, v, k, rfl, hd.keep s1, by omega, fun H2 s2 => ⟨_, _, rfl, rfl, ?_⟩⟩
      have := q H2 (s1.trans s2)
      rw [isK, e, kd] at this
      have e2 : decide ((k.dep : Int) ≤ 100) = (true && decide (k.dep ≤ 100)) := by
        rw [Bool.true_and]
        exact decide_eq_decide.mpr ⟨fun h => by omega, fun h => by omega⟩
      rw [← e2] at this
      exact this
abbrev nWi : List Str := ["_law_kind_here", "_law_found", "_law_part"]
theorem scWi : FnScope nWi ["_law_kind_here"] (defScope (top 36)) := ⟨rfl, rfl, rfl, by decide +kernel, rfl, by decide +kernel, by decide +kernel⟩
theorem wi_body (n : Nat) {f : Addr} {fd : FuncData} {spR : Sp} (F : FnP K "_law_words_in" (top 36) f fd)
    (gR : mg "_law_words_in" = some (.ref f)) (bR : Binds K fd ["_law_kind_here"] []) (GR : FnOk P w K mg base CX0 (1 + n) f fd ["_law_kind_here"] spR)
    (hR : ∀ m, n = m + 1 → ∀ vs H Q, spWi m vs H Q E0 → spR vs H Q E0) : FnOk P w K mg base CX0 (1 + n + 1) f fd ["_law_kind_here"] (spWi n) := by
  refine F.ok scWi (fun vs H Q E h => ?_) (fun cdv A outer s H vs Q E hr h => ?_)
  · obtain ⟨F, v, k, rfl, _⟩ := h
    rfl
  · obtain ⟨Fa, v, k, rfl, hk0, hdp, hkz, q⟩ := h
    have sc := scWi
    have hrR : Room (1 + n) _ := hr
    have hk : Dt (Ot []) H v k.d := hk0.any
    have stN : ∀ (H' : Hp) p, H' p = none → Ot [] p := fun _ p _ z => by cases z
    refine ⟨_, PSs.nox (pss_cons (ps_if (pt_cmpR op_eq (pe_ix ix_tup (pv 0) pe_int (fun _ _ => rfl)) pe_str (nomark _)) (pss_one (ps_ret (pe_lst (pa_cons (pe_ix ix_tup (pv 0) pe_int (fun _ _ => rfl)) pa_nil)))) pss_nil) (pss_cons (ps_set (i := 1) sc.nd rfl (Or.inl rfl) (pe_lst (pa_cons (pe_ix ix_tup (pv 0) pe_int (fun _ _ => rfl)) pa_nil))) (pss_cons (ps_for PassesOwn.never rfl (pi_tup (pe_slice sl_tupA (pv 0) (po_some pe_int) po_none)) (pg_name (i := 2) sc.nd rfl (Or.inl rfl)) (pss_one (ps_set (i := 1) sc.nd rfl (Or.inl rfl) (pe_op op_cat (pv 1) (pe_call GR hrR rfl gR F.kp bR .nil pass0 (pa_cons (pv 2) pa_nil)))))) (pss_one (ps_ret (pv 1)))))), ?_⟩
    have big : ∀ k : Nat, k ≤ 1000 → k ≤ sizeLine := fun k h => Nat.le_of_lt (small1000 h)
    cases ev : k.isVar with
    | true =>
      obtain ⟨x, rfl⟩ : ∃ x, k = .var x := by
        cases k <;> first | exact ⟨_, rfl⟩ | cases ev
      obtain ⟨a, rfl, fa, ka⟩ := kd_at hk
      refine ⟨_, rfl, a, _, 0, _, rfl, rfl, SqT.of ka, rfl, rfl, _, rfl, ifT (decide_eq_true rfl) ?_⟩
      refine ⟨_, rfl, a, _, 1, _, rfl, rfl, SqT.of ka, rfl, big _ (by show (1 : Nat) ≤ 1000; decide), fun p np => ?_⟩
      exact q p _ np (Same.new np) upd_same
    | false =>
      obtain ⟨e3, ew⟩ := Kd.d_eqv ev
      rw [e3] at hk
      obtain ⟨a, xs, rfl, fa, ha, r⟩ := id hk.tupI
      cases r with
      | @cons x xs' _ _ h0 r' =>
      have e0 := h0.strI
      subst e0
      refine ⟨_, rfl, a, _, 0, _, rfl, rfl, SqT.of ha, atI_nat (j := 0) rfl, rfl, _, rfl, ifF (decide_eq_false fun z => Kd.word_var ev (V.str.inj z)) ?_⟩
      refine ⟨_, rfl, a, _, 0, _, rfl, rfl, SqT.of ha, atI_nat (j := 0) rfl, big _ (by show (1 : Nat) ≤ 1000; decide), fun p np => ?_⟩
      have s1 := @Same.new p _ (.lst [.str k.word]) np
      have hk1 := hk.keep s1
      refine slC (K := K) 1 (stN _) rfl hk1 fun u HD sD dD => ?_
      have sHD := s1.trans sD
      obtain ⟨b, xs, rfl, fb, hb, rb⟩ := dD.tupI
      have rb' : DtA (Ot []) HD xs (k.kids.map Kd.d) := rb
      have lx := rb'.length
      rw [List.length_map] at lx
      have k2l := Kd.kids_len k
      have kk := Kd.kids_kz k
      have flen : ∀ i, ((k.kids.take i).map Kd.wl).flatten.length ≤ 4000000 := fun i => by
        have h1 := wls_take k.kids i
        omega
      refine ⟨b, rfl, ⟨_, SqT.of hb⟩, for_tup (K := K) (a := b) (xs := xs) (fun i σ H2 => ∃ (p2 : Addr) (u2 : Option V), σ = [some (.ref a), some (.ref p2), u2] ∧ H p2 = none ∧ H2 p2 = some (.lst ((k.word :: ((k.kids.take i).map Kd.wl).flatten).map V.str)) ∧ Same HD H2)
        ⟨p, none, rfl, np, sD _ _ upd_same, Same.refl HD⟩ (fun i σ H2 _ hP => by
          obtain ⟨_, _, _, _, _, sm⟩ := hP
          exact SqT.of (sm b _ hb)) ?_ ?_⟩
      · rintro i x σ H2 hi ⟨p2, u2, rfl, np2, hp2, sm⟩
        obtain ⟨dd, hdd, dx⟩ := rb'.get hi
        obtain ⟨k2, hk2, rfl⟩ : ∃ k2, k.kids[i]? = some k2 ∧ k2.d = dd := by
          rw [List.getElem?_map] at hdd
          cases e : k.kids[i]? with
          | none => rw [e] at hdd; cases hdd
          | some k2 => rw [e] at hdd; exact ⟨k2, rfl, Option.some.inj hdd⟩
        have kl := Kd.kids_dep k2 (List.mem_of_getElem? hk2)
        (obtain ⟨m, rfl⟩ : ∃ m, n = m + 1 := ⟨n - 1, by omega⟩)
        have kz2 : k2.kz ≤ k.kz := by
          have := kz_mem (List.mem_of_getElem? hk2)
          omega
        refine ⟨_, rfl, _, rfl, hR m rfl _ _ _ ⟨_, x, k2, rfl, dx.keep sm, by omega, by omega, fun p3 H3 np3 s3 hp3 => ?_⟩⟩
        have f1 := flen i
        have f2 := k2.wl_len
        refine ⟨p2, p3, _, _, rfl, rfl, s3 _ _ hp2, hp3, Nat.le_trans (by rw [List.length_map, List.length_cons, List.length_map]; omega : _ ≤ 16000000) (by decide), fun p4 np4 => ?_⟩
        refine ⟨p4, some x, rfl, ?_, ?_, sm.trans (s3.trans (Same.new np4))⟩
        · exact (sHD.trans (sm.trans s3)).free np4
        · rw [upd_same, ← List.map_append, List.take_add_one, hk2]
          simp
      · rintro σ H2 ⟨p2, u2, rfl, np2, hp2, sm⟩
        rw [lx, List.take_length, ← ew] at hp2
        exact ⟨_, rfl, q p2 H2 np2 (sHD.trans sm) hp2⟩
theorem ok_wi {f : Addr} {fd : FuncData} (F : FnP K "_law_words_in" (top 36) f fd)
    (gR : mg "_law_words_in" = some (.ref f)) (bR : Binds K fd ["_law_kind_here"] []) : ∀ n : Nat, FnOk P w K mg base CX0 (1 + n + 1) f fd ["_law_kind_here"] (spWi n)
  | 0 => wi_body 0 (spR := fun _ _ _ _ => False) F gR bR ⟨fun _ _ _ _ h => h.elim, fun _ _ _ _ _ _ _ _ _ _ _ _ _ h => h.elim⟩ fun m e => by cases e
  | n + 1 => wi_body (n + 1) F gR bR (ok_wi F gR bR n) fun m e => by cases e; exact fun _ _ _ h => h
end
end J2
namespace KB
open PySem L2 PySem.Spec PyProof.Rows
mutual
def nf : PyData → Bool
  | .tuple (x :: ds) => !txB x ["fun"] && nfA ds
  | _ => true
def nfA : List PyData → Bool
  | [] => true
  | d :: ds => nf d && nfA ds
end
mutual
def cl : PyData → Bool
  | .tuple (x :: ds) => !txB x ["var"] && clA ds
  | _ => true
def clA : List PyData → Bool
  | [] => true
  | d :: ds => cl d && clA ds
end
theorem nf_d : ∀ k : Kd, nf k.d = k.noFn
  | .num => by rfl
  | .unit => by rfl
  | .var _ => by simp [Kd.d, Kd.noFn, nf, nfA]; rfl
  | .lst a => by simp only [Kd.d, Kd.noFn, nf, nfA, nf_d a, Bool.and_true]; rfl
  | .pair a b => by simp only [Kd.d, Kd.noFn, nf, nfA, nf_d a, nf_d b, Bool.and_true]; rfl
  | .eith a b => by simp only [Kd.d, Kd.noFn, nf, nfA, nf_d a, nf_d b, Bool.and_true]; rfl
  | .fn a b => by simp only [Kd.d, Kd.noFn, nf]; rfl
theorem cl_d : ∀ k : Kd, cl k.d = k.closed
  | .num => by rfl
  | .unit => by rfl
  | .var _ => by simp only [Kd.d, Kd.closed, cl]; rfl
  | .lst a => by simp only [Kd.d, Kd.closed, cl, clA, cl_d a, Bool.and_true]; rfl
  | .pair a b => by simp only [Kd.d, Kd.closed, cl, clA, cl_d a, cl_d b, Bool.and_true]; rfl
  | .eith a b => by simp only [Kd.d, Kd.closed, cl, clA, cl_d a, cl_d b, Bool.and_true]; rfl
  | .fn a b => by simp only [Kd.d, Kd.closed, cl, clA, cl_d a, cl_d b, Bool.and_true]; rfl
def abc : List Str := ["a", "b", "c"]
theorem abc_fun {x : Str} (h : abc.contains x = true) : (x == "fun") = false := by
  have m : x ∈ abc := by simpa using h
  rcases List.mem_cons.mp m with e | m
  · rw [e]; decide
  · rcases List.mem_cons.mp m with e | m
    · rw [e]; decide
    · rw [List.mem_singleton.mp m]; decide
theorem wl_fun : ∀ k : Kd, k.okv = true → (k.wl.any fun x => x == "fun") = !k.noFn
  | .num, _ => by decide
  | .unit, _ => by decide
  | .var x, h => by
    show ((x == "fun") || false) = false
    rw [abc_fun h]
    rfl
  | .lst a, h => by
    rw [Kd.wl, List.any_cons, wl_fun a h]
    rfl
  | .pair a b, h => by
    obtain ⟨h1, h2⟩ := Bool.and_eq_true_iff.mp (show (a.okv && b.okv) = true from h)
    rw [Kd.wl, List.any_cons, List.any_append, wl_fun a h1, wl_fun b h2, Kd.noFn, Bool.not_and]
    rfl
  | .eith a b, h => by
    obtain ⟨h1, h2⟩ := Bool.and_eq_true_iff.mp (show (a.okv && b.okv) = true from h)
    rw [Kd.wl, List.any_cons, List.any_append, wl_fun a h1, wl_fun b h2, Kd.noFn, Bool.not_and]
    rfl
  | .fn a b, h => by rw [Kd.wl, List.any_cons]; rfl
theorem wl_abc : ∀ k : Kd, k.okv = true → ((k.wl.filter fun x => abc.contains x).isEmpty) = k.closed
  | .num, _ => by decide
  | .unit, _ => by decide
  | .var x, h => by
    have h' : abc.contains x = true := h
    rw [Kd.wl, List.filter_cons_of_pos h']
    rfl
  | .lst a, h => by
    rw [Kd.wl, List.filter_cons_of_neg (by decide), wl_abc a h]
    rfl
  | .pair a b, h => by
    obtain ⟨h1, h2⟩ := Bool.and_eq_true_iff.mp (show (a.okv && b.okv) = true from h)
    rw [Kd.wl, List.filter_cons_of_neg (by decide), List.filter_append, Kd.closed, ← wl_abc a h1, ← wl_abc b h2]
    cases a.wl.filter fun x => abc.contains x <;> simp
  | .eith a b, h => by
    obtain ⟨h1, h2⟩ := Bool.and_eq_true_iff.mp (show (a.okv && b.okv) = true from h)
    rw [Kd.wl, List.filter_cons_of_neg (by decide), List.filter_append, Kd.closed, ← wl_abc a h1, ← wl_abc b h2]
    cases a.wl.filter fun x => abc.contains x <;> simp
  | .fn a b, h => by
    obtain ⟨h1, h2⟩ := Bool.and_eq_true_iff.mp (show (a.okv && b.okv) = true from h)
    rw [Kd.wl, List.filter_cons_of_neg (by decide), List.filter_append, Kd.closed, ← wl_abc a h1, ← wl_abc b h2]
    cases a.wl.filter fun x => abc.contains x <;> simp
def isDk (d : PyData) : Bool := isK d && nf d
def isCk (d : PyData) : Bool := isK d && cl d
def spId (n : Nat) : Sp := fun vs H Q _ => ∃ (F : Addr → Prop) (v : V) (d : PyData), vs = [v] ∧ Dt F H v d ∧ d.depth ≤ n ∧ sz d ≤ 4000000 ∧ ∀ H', Same H H' → Q (.bl (isDk d)) H'
def spIc (n : Nat) : Sp := fun vs H Q _ => ∃ (F : Addr → Prop) (v : V) (d : PyData), vs = [v] ∧ Dt F H v d ∧ d.depth ≤ n ∧ sz d ≤ 4000000 ∧ ∀ H', Same H H' → Q (.bl (isCk d)) H'
theorem kz_sz : ∀ k : Kd, k.kz ≤ sz k.d
  | .num => by simp [Kd.kz, Kd.d, sz, szA]
  | .unit => by simp [Kd.kz, Kd.d, sz, szA]
  | .var _ => by simp [Kd.kz, Kd.d, sz, szA]
  | .lst a => by have := kz_sz a; simp only [Kd.kz, Kd.d, sz, szA]; omega
  | .pair a b => by have := kz_sz a; have := kz_sz b; simp only [Kd.kz, Kd.d, sz, szA]; omega
  | .eith a b => by have := kz_sz a; have := kz_sz b; simp only [Kd.kz, Kd.d, sz, szA]; omega
  | .fn a b => by have := kz_sz a; have := kz_sz b; simp only [Kd.kz, Kd.d, sz, szA]; omega
theorem inV_fun (ws : List Str) : inV (.str "fun") (ws.map V.str) = ws.any fun x => x == "fun" := by
  rw [inV_str]
  induction ws with
  | nil => rfl
  | cons x ws ih => rw [List.contains_cons, List.any_cons, ih, Bool.beq_comm]
theorem dp_strs {K : PySem.W.Frag} {H : Hp} : ∀ ws : List Str, DpAll K H (ws.map V.str) (ws.map PyData.str)
  | [] => .nil
  | x :: ws => .cons (.str x) (dp_strs ws)
theorem lay_strs : ∀ ws : List Str, (∀ x ∈ ws, PyData.strOk x = true) → PyData.canLayAll0 (ws.map PyData.str) = true ∧ PyData.depthAll (ws.map PyData.str) = 0
  | [], _ => by simp [PyData.canLayAll0, PyData.depthAll]
  | x :: ws, h => by
    have := lay_strs ws fun y hy => h y (List.mem_cons_of_mem _ hy)
    have hx := h x List.mem_cons_self
    simp [PyData.canLayAll0, PyData.canLay0, PyData.depthAll, PyData.depth, this.1, this.2, hx]
theorem shaped_strs {ws : List Str} (h : ∀ x ∈ ws, PyData.strOk x = true) : SeqAt.shaped (.list (ws.map PyData.str)) = true := by
  have := lay_strs ws h
  simp [SeqAt.shaped, PyData.canLay0, PyData.depth, this.1, this.2]
theorem abc_ok {ws : List Str} : ∀ x ∈ ws.filter (fun x => abc.contains x), PyData.strOk x = true := fun x h => by
  have m : x ∈ abc := by simpa using (List.mem_filter.mp h).2
  rcases List.mem_cons.mp m with e | m
  · rw [e]; decide +kernel
  · rcases List.mem_cons.mp m with e | m
    · rw [e]; decide +kernel
    · rw [List.mem_singleton.mp m]; decide +kernel
theorem inT {X : Cx} {K : PySem.W.Frag} (h : X.K = K) : OpR X (compareOp .In) (rIn K false) := by
  rw [← h]
  exact op_in_seq
theorem eqv_empty (ws : List Str) : PyData.eqv (.list (ws.map PyData.str)) (.list []) = ws.isEmpty := by
  cases ws <;> rfl
end KB
namespace J2
open PySem PySem.Spec PyProof.Rows L2 KB
section
variable {K : PySem.W.Frag} {mg : Str → Option Value} {base : Heap} {P : Program} {w : World}
abbrev nId : List Str := ["_law_thing"]
theorem scId : FnScope nId ["_law_thing"] (defScope (top 37)) := ⟨rfl, rfl, rfl, by decide +kernel, rfl, by decide +kernel, by decide +kernel⟩
theorem ok_id (n : Nat) {f : Addr} {fd : FuncData} (F : FnP K "_law_is_data" (top 37) f fd) (hK : Has P w K mg base "_law_is_kind" ["_law_thing"] (1 + n + 2) (spIk n))
    (hW : Has P w K mg base "_law_words_in" ["_law_kind_here"] (1 + n + 1) (spWi n)) : FnOk P w K mg base CX0 (1 + n + 3) f fd ["_law_thing"] (spId n) := by
  obtain ⟨fK, fdK, kK, gK, bK, GK⟩ := hK
  obtain ⟨fW, fdW, kW, gW, bW, GW⟩ := hW
  refine F.ok scId (fun vs H Q E h => ?_) (fun cdv A outer s H vs Q E hr h => ?_)
  · obtain ⟨F, v, d, rfl, _⟩ := h
    rfl
  · obtain ⟨Fa, v, d, rfl, hd, hdp, hsz, q⟩ := h
    have sc := scId
    have hrK : Room (1 + n + 2) _ := hr
    have hrW : Room (1 + n + 1) _ := hr.mono (by omega)
    refine ⟨_, PSs.nox (pss_one (ps_ret (pe_and (pe_call GK hrK rfl gK kK bK .nil pass0 (pa_cons (pv 0) pa_nil)) (pe_one (pe_cmpR op_notIn_seq pe_str (pe_call GW hrW rfl gW kW bW .nil pass0 (pa_cons (pv 0) pa_nil)) (by rfl)))))), ?_⟩
    refine ⟨_, rfl, Fa, v, d, rfl, hd, hdp, fun H1 s1 => ⟨_, rfl, ?_⟩⟩
    cases e : isK d with
    | false =>
      refine ifF rfl ?_
      have := q H1 s1
      rw [isDk, e] at this
      exact this
    | true =>
      refine ifT rfl ?_
      obtain ⟨k, rfl, o, dp⟩ := isK_ok e
      have kd := Kd.depth k
      have kz := kz_sz k
      refine ⟨_, rfl, Fa, v, k, rfl, hd.keep s1, by omega, by omega, fun p H2 np s2 hp => ?_⟩
      refine ⟨p, _, rfl, .inl (SqL.of hp), rfl, flat_strs _, ?_⟩
      have := q H2 (s1.trans s2)
      rw [isDk, e, nf_d] at this
      have e2 : (!inV (.str "fun") (k.wl.map V.str)) = (true && k.noFn) := by
        rw [inV_fun, wl_fun k o, Bool.not_not, Bool.true_and]
      rw [← e2] at this
      exact this
abbrev nIc : List Str := ["_law_thing", "_law_word"]
theorem scIc : FnScope nIc ["_law_thing"] (defScope (top 38)) := ⟨rfl, rfl, rfl, by decide +kernel, rfl, by decide +kernel, by decide +kernel⟩
theorem ok_ic (n : Nat) {f : Addr} {fd : FuncData} (F : FnP K "_law_is_closed" (top 38) f fd) (hK : Has P w K mg base "_law_is_kind" ["_law_thing"] (1 + n + 2) (spIk n))
    (hW : Has P w K mg base "_law_words_in" ["_law_kind_here"] (1 + n + 1) (spWi n)) : FnOk P w K mg base CX0 (1 + n + 3) f fd ["_law_thing"] (spIc n) := by
  obtain ⟨fK, fdK, kK, gK, bK, GK⟩ := hK
  obtain ⟨fW, fdW, kW, gW, bW, GW⟩ := hW
  refine F.ok scIc (fun vs H Q E h => ?_) (fun cdv A outer s H vs Q E hr h => ?_)
  · obtain ⟨F, v, d, rfl, _⟩ := h
    rfl
  · obtain ⟨Fa, v, d, rfl, hd, hdp, hsz, q⟩ := h
    have sc := scIc
    have hrK : Room (1 + n + 2) _ := hr
    have hrW : Room (1 + n + 1) _ := hr.mono (by omega)
    refine ⟨_, PSs.nox (pss_one (ps_ret (pe_and (pe_call GK hrK rfl gK kK bK .nil pass0 (pa_cons (pv 0) pa_nil)) (pe_one (pe_cmpR (op_eqD hr.units) (pe_lc (own := [("_law_word", 1)]) (g := gName 1) (by rfl) sc.nd (pi_list (pe_call GW hrW rfl gW kW bW .nil pass0 (pa_cons (pv 0) pa_nil))) (blkOk_by (own := [("_law_word", 1)]) (N := nIc) (sc := (defScope (top 38))) (by decide +kernel)) (fun _ _ _ _ _ => (pg_name (i := 1) sc.nd rfl (Or.inl rfl))) (fun _ _ _ _ _ => (pts_one (pt_cmpR (inT (K := K) rfl) (pv 1) (pe_tup (pa_cons pe_str (pa_cons pe_str (pa_cons pe_str pa_nil)))) (by rfl)))) (fun _ _ _ _ _ => (pv 1))) (pe_lst pa_nil) (nomark _)))))), ?_⟩
    have big : ∀ k : Nat, k ≤ 1000 → k ≤ sizeLine := fun k h => Nat.le_of_lt (small1000 h)
    refine ⟨_, rfl, Fa, v, d, rfl, hd, hdp, fun H1 s1 => ⟨_, rfl, ?_⟩⟩
    cases e : isK d with
    | false =>
      refine ifF rfl ?_
      have := q H1 s1
      rw [isCk, e] at this
      exact this
    | true =>
      refine ifT rfl ?_
      obtain ⟨k, rfl, o, dp⟩ := isK_ok e
      have kd := Kd.depth k
      have kz := kz_sz k
      refine ⟨_, rfl, Fa, v, k, rfl, hd.keep s1, by omega, by omega, fun p H2 np s2 hp => ?_⟩
      have wz := k.wl_len
      refine ⟨p, rfl, ⟨_, SqL.of hp⟩, fun D nD => lc_list (K := K) (a := p) (xs := k.wl.map V.str) (fun i H3 => Same H2 H3 ∧ H3 D = some (.lst (((k.wl.take i).filter fun x => abc.contains x).map V.str))) ⟨Same.new nD, upd_same⟩
        (fun i H3 _ hP => SqL.of (hP.1 p _ hp)) ?_ ?_⟩
      · rintro i x H3 hi ⟨sm, hD⟩
        obtain ⟨y, rfl, hy⟩ : ∃ y, x = .str y ∧ k.wl[i]? = some y := by
          rw [List.getElem?_map] at hi
          cases e : k.wl[i]? with
          | none => rw [e] at hi; cases hi
          | some y => rw [e] at hi; exact ⟨y, (Option.some.inj hi).symm, rfl⟩
        refine ⟨rfl, ?_⟩
        refine ⟨_, rfl, big _ (by show (3 : Nat) ≤ 1000; decide), fun t nt => ⟨t, _, rfl, .inr (SqT.of upd_same), rfl, rfl, _, rfl, ?_⟩⟩
        have s4 := @Same.new t _ (.tup (abc.map V.str)) nt
        have hD4 := s4 _ _ hD
        have sm4 := sm.trans s4
        have tk : (k.wl.take (i + 1)) = k.wl.take i ++ [y] := by rw [List.take_add_one, hy]; rfl
        show (if inV (.str y) (abc.map V.str) = true then _ else _)
        rw [inV_str]
        refine ite2 (fun g => ?_) (fun g => ?_)
        · refine ⟨_, rfl, _, hD4, ?_, ?_, ?_⟩
          · refine Nat.lt_of_le_of_lt (?_ : _ ≤ 4000000) (by decide)
            rw [List.length_map]
            have := List.length_filter_le (fun x => abc.contains x) (k.wl.take i)
            rw [List.length_take] at this
            omega
          · intro c o e
            rw [upd_ne (ne_of_none e nD)]
            exact sm4 c o e
          · rw [upd_same, tk, List.filter_append, List.map_append, List.filter_cons_of_pos g]
            rfl
        · refine ⟨sm4, ?_⟩
          rw [tk, List.filter_append, List.filter_cons_of_neg (by simpa using g)]
          rw [List.filter_nil, List.append_nil]
          exact hD4
      · rintro H3 ⟨sm, hD⟩
        rw [List.length_map, List.take_length] at hD
        refine ⟨Nat.zero_le _, fun z nz => ?_⟩
        have s4 := @Same.new z _ (.lst []) nz
        refine ⟨.list ((k.wl.filter fun x => abc.contains x).map PyData.str), .list [], .lst (SqL.of (s4 _ _ hD)) (dp_strs _), .lst (SqL.of upd_same) .nil, shaped_strs abc_ok, rfl, ?_⟩
        have := q _ (s1.trans (s2.trans (sm.trans s4)))
        rw [isCk, e, cl_d, Bool.true_and, ← wl_abc k o, ← eqv_empty] at this
        exact this
end
end J2
namespace KB
open PySem L2 PySem.Spec PyProof.Rows
def hfB : PyData → Bool
  | .tuple [x] => txB x ["unit", "num"]
  | .tuple [x, y] => txB x ["var", "list"] && (!txB x ["var"] || txB y abc)
  | .tuple [x, _, _] => txB x ["pair", "either", "fun"]
  | _ => false
def pb : PyData → List PyData
  | .tuple (x :: ds) => if txB x ["var"] then [] else ds
  | _ => []
mutual
def lv : PyData → Int → List (PyData × Int)
  | .tuple (x :: ds), l => (.tuple (x :: ds), l) :: (if txB x ["var"] then [] else lvA ds (l + 1))
  | d, l => [(d, l)]
def lvA : List PyData → Int → List (PyData × Int)
  | [], _ => []
  | d :: ds, l => lv d l ++ lvA ds l
end
def lvL : List (PyData × Int) → List (PyData × Int)
  | [] => []
  | p :: ps => lv p.1 p.2 ++ lvL ps
theorem lvL_app : ∀ a b : List (PyData × Int), lvL (a ++ b) = lvL a ++ lvL b
  | [], _ => rfl
  | p :: a, b => by rw [List.cons_append, lvL, lvL, lvL_app a b, List.append_assoc]
theorem lvA_L (l : Int) : ∀ ds : List PyData, lvA ds l = lvL (ds.map fun e => (e, l))
  | [] => by rw [lvA]; rfl
  | d :: ds => by rw [lvA, lvA_L l ds]; rfl
theorem hf_tup {d : PyData} (h : hfB d = true) : ∃ s ds, d = .tuple (.str s :: ds) := by
  match d, h with
  | .tuple [x], h =>
    obtain ⟨s, rfl, _⟩ := txB_str (show txB x ["unit", "num"] = true from h)
    exact ⟨s, _, rfl⟩
  | .tuple [x, y], h =>
    obtain ⟨s, rfl, _⟩ := txB_str (Bool.and_eq_true_iff.mp (show (txB x ["var", "list"] && (!txB x ["var"] || txB y abc)) = true from h)).1
    exact ⟨s, _, rfl⟩
  | .tuple [x, y, z], h =>
    obtain ⟨s, rfl, _⟩ := txB_str (show txB x ["pair", "either", "fun"] = true from h)
    exact ⟨s, _, rfl⟩
theorem lv_step {d : PyData} (h : hfB d = true) (l : Int) : lv d l = (d, l) :: lvL ((pb d).map fun e => (e, l + 1)) := by
  obtain ⟨s, ds, rfl⟩ := hf_tup h
  rw [lv, pb]
  by_cases g : txB (.str s) ["var"] = true
  · rw [if_pos g, if_pos g]; rfl
  · rw [if_neg g, if_neg g, lvA_L]
def okB (p : PyData × Int) : Bool := isF p.1 && decide (p.2 + (p.1.depth : Int) ≤ 101)
theorem isF_pos {d : PyData} (h : isF d = true) : 1 ≤ d.depth := by
  obtain ⟨k, rfl, _⟩ := isF_ok d h
  rw [Kd.depth]
  exact Kd.dep_pos k
theorem okB_no {d : PyData} {l : Int} (h : isF d = false) : okB (d, l) = false := by
  show (isF d && _) = false
  rw [h]
  rfl
theorem okB_isF {d : PyData} {l : Int} (h : isF d = true) : okB (d, l) = decide (l + (d.depth : Int) ≤ 101) := by
  show (isF d && _) = _
  rw [h]
  rfl
theorem okB_step (d : PyData) (l : Int) : okB (d, l) = (decide (l ≤ 100) && (hfB d && (pb d).all fun e => okB (e, l + 1))) := by
  have no : isF d = false → hfB d = false → okB (d, l) = (decide (l ≤ 100) && (hfB d && (pb d).all fun e => okB (e, l + 1))) := fun a b => by
    rw [okB_no a, b, Bool.false_and, Bool.and_false]
  match d, no with
  | .none, no => exact no rfl rfl
  | .bool _, no => exact no rfl rfl
  | .int _, no => exact no rfl rfl
  | .str _, no => exact no rfl rfl
  | .list _, no => exact no rfl rfl
  | .dict _, no => exact no rfl rfl
  | .tuple [], no => exact no (by rw [isF_step]; rfl) rfl
  | .tuple (x :: y :: z :: u :: r), no => exact no (by rw [isF_step]; simp [hd]) rfl
  | .tuple [x], no =>
    by_cases h : txB x ["unit", "num"] = true
    · obtain ⟨s, rfl, _⟩ := txB_str h
      have e : isF (.tuple [.str s]) = true := by rw [isF]; exact h
      rw [okB_isF e, show hfB (.tuple [.str s]) = true from h]
      have e2 : pb (.tuple [.str s]) = [] := by rw [pb]; split <;> rfl
      rw [e2, List.all_nil, Bool.and_self, Bool.and_true]
      have e3 : (PyData.tuple [.str s]).depth = 1 := by simp [PyData.depth, PyData.depthAll]
      rw [e3]
      exact decide_eq_decide.mpr ⟨fun h => by omega, fun h => by omega⟩
    · have h' : txB x ["unit", "num"] = false := by simpa using h
      exact no (by rw [isF]; exact h') h'
  | .tuple [x, y], no =>
    by_cases hv : txB x ["var"] = true
    · obtain ⟨s, rfl, m⟩ := txB_str hv
      have es := List.mem_singleton.mp m
      subst es
      by_cases hy : txB y abc = true
      · obtain ⟨t, rfl, _⟩ := txB_str hy
        have e : isF (.tuple [.str "var", .str t]) = true := by rw [isF, if_pos hv]; exact hy
        have e1 : hfB (.tuple [.str "var", .str t]) = true := by
          show (txB (.str "var") ["var", "list"] && (!txB (.str "var") ["var"] || txB (.str t) abc)) = true
          rw [hy, Bool.or_true]; rfl
        rw [okB_isF e, e1]
        have e2 : pb (.tuple [.str "var", .str t]) = [] := by rw [pb, if_pos hv]
        rw [e2, List.all_nil, Bool.and_self, Bool.and_true]
        have e3 : (PyData.tuple [.str "var", .str t]).depth = 1 := by simp [PyData.depth, PyData.depthAll]
        rw [e3]
        exact decide_eq_decide.mpr ⟨fun h => by omega, fun h => by omega⟩
      · have hy' : txB y abc = false := by simpa using hy
        refine no (by rw [isF, if_pos hv]; exact hy') ?_
        show (txB (.str "var") ["var", "list"] && (!txB (.str "var") ["var"] || txB y abc)) = false
        rw [hy', hv]; rfl
    · have hv' : txB x ["var"] = false := by simpa using hv
      by_cases hl : txB x ["list"] = true
      · obtain ⟨s, rfl, m⟩ := txB_str hl
        have es := List.mem_singleton.mp m
        subst es
        have e1 : hfB (.tuple [.str "list", y]) = true := by
          show (txB (.str "list") ["var", "list"] && (!txB (.str "list") ["var"] || txB y abc)) = true
          rw [hv']; rfl
        have e2 : pb (.tuple [.str "list", y]) = [y] := by rw [pb, if_neg hv]
        rw [e1, e2, Bool.true_and, List.all_cons, List.all_nil, Bool.and_true]
        have e0 : isF (.tuple [.str "list", y]) = isF y := by rw [isF, if_neg hv, hl, Bool.true_and]
        cases ey : isF y with
        | false => rw [okB_no (e0.trans ey), okB_no ey, Bool.and_false]
        | true =>
          have p := isF_pos ey
          have e3 : (PyData.tuple [.str "list", y]).depth = y.depth + 1 := by simp [PyData.depth, PyData.depthAll]
          rw [okB_isF (e0.trans ey), okB_isF ey, e3, ← Bool.decide_and]
          exact decide_eq_decide.mpr ⟨fun h => by omega, fun h => by omega⟩
      · have hl' : txB x ["list"] = false := by simpa using hl
        refine no (by rw [isF, if_neg hv, hl']; rfl) ?_
        show (txB x ["var", "list"] && _) = false
        cases x with
        | str s =>
          have a1 : s ≠ "var" := fun z => hv (by rw [z]; rfl)
          have a2 : s ≠ "list" := fun z => hl (by rw [z]; rfl)
          have : txB (.str s) ["var", "list"] = false := by
            show (["var", "list"] : List Str).contains s = false
            simp [a1, a2]
          rw [this]; rfl
        | _ => rfl
  | .tuple [x, y, z], no =>
    by_cases h : txB x ["pair", "either", "fun"] = true
    · obtain ⟨s, rfl, m⟩ := txB_str h
      have nv : ¬ txB (.str s) ["var"] = true := fun g => by
        obtain ⟨t, et, mt⟩ := txB_str g
        have e1 := PyData.str.inj et
        have e2 := List.mem_singleton.mp mt
        rw [e1, e2] at m
        exact absurd m (by decide)
      have e1 : hfB (.tuple [.str s, y, z]) = true := h
      have e2 : pb (.tuple [.str s, y, z]) = [y, z] := by rw [pb, if_neg nv]
      rw [e1, e2, Bool.true_and, List.all_cons, List.all_cons, List.all_nil, Bool.and_true]
      have e0 : isF (.tuple [.str s, y, z]) = (isF y && isF z) := by rw [isF, h, Bool.true_and]
      cases ey : isF y with
      | false => rw [okB_no (by rw [e0, ey]; rfl), okB_no ey, Bool.false_and, Bool.and_false]
      | true =>
        cases ez : isF z with
        | false => rw [okB_no (by rw [e0, ey, ez]; rfl), okB_no ez, Bool.and_false, Bool.and_false]
        | true =>
          have p := isF_pos ey
          have p2 := isF_pos ez
          have e3 : (PyData.tuple [.str s, y, z]).depth = max y.depth z.depth + 1 := by simp [PyData.depth, PyData.depthAll]
          rw [okB_isF (by rw [e0, ey, ez]; rfl), okB_isF ey, okB_isF ez, e3, ← Bool.decide_and, ← Bool.decide_and]
          exact decide_eq_decide.mpr ⟨fun h => by omega, fun h => by omega⟩
    · have h' : txB x ["pair", "either", "fun"] = false := by simpa using h
      exact no (by rw [isF, h']; rfl) h'
theorem okB_one (d : PyData) : okB (d, 1) = isK d := by
  show (isF d && decide ((1 : Int) + (d.depth : Int) ≤ 101)) = (isF d && decide (d.depth ≤ 100))
  congr 1
  exact decide_eq_decide.mpr ⟨fun h => by omega, fun h => by omega⟩
theorem pb_sz (d : PyData) : ((pb d).map sz).sum + 1 ≤ sz d + 1 ∧ (hfB d = true → ((pb d).map sz).sum + 3 ≤ sz d) := by
  have sum : ∀ ds : List PyData, (ds.map sz).sum ≤ szA ds := fun ds => by
    induction ds with
    | nil => exact Nat.le_refl _
    | cons d ds ih => rw [List.map_cons, List.sum_cons, szA]; omega
  have key : ((pb d).map sz).sum ≤ sz d ∧ (hfB d = true → ((pb d).map sz).sum + 3 ≤ sz d) := by
    cases d with
    | tuple ds =>
      cases ds with
      | nil => exact ⟨Nat.zero_le _, fun h => by cases h⟩
      | cons x ds =>
        have := sum ds
        rw [pb, sz, szA]
        split
        · exact ⟨Nat.zero_le _, fun _ => by show 0 + 3 ≤ _; omega⟩
        · exact ⟨by omega, fun _ => by omega⟩
    | _ => exact ⟨Nat.zero_le _, fun h => by cases h⟩
  exact ⟨by omega, key.2⟩
end KB
namespace KB
open PySem L2 PySem.Spec PyProof.Rows
def spHf : Sp := fun vs H Q _ => ∃ (F : Addr → Prop) (v : V) (d : PyData), vs = [v] ∧ Dt F H v d ∧ Q (.bl (hfB d)) H
theorem hfB_notup {d : PyData} (h : isTup d = false) : hfB d = false := by
  cases d <;> first | rfl | cases h
def w3 (t1 t2 t3 : Addr) : List (L2.Key × V) := [(.inl 1, .ref t1), (.inl 2, .ref t2), (.inl 3, .ref t3)]
theorem w3_no {t1 t2 t3 : Addr} {n : Nat} (h : n = 0 ∨ 4 ≤ n) : valV (w3 t1 t2 t3) (.inl (n : Int)) = none := by
  have a : ∀ m : Int, (m = 1 ∨ m = 2 ∨ m = 3) → decide ((Sum.inl m : L2.Key) = .inl (n : Int)) = false := fun m hm => decide_eq_false fun z => by
    have := Sum.inl.inj z
    omega
  simp only [valV, w3, List.find?, a 1 (by simp), a 2 (by simp), a 3 (by simp), Option.map]
end KB
namespace J2
open PySem PySem.Spec PyProof.Rows L2 KB
section
variable {P : Program} {w : World} {K : PySem.W.Frag} {mg : Str → Option Value} {base : Heap} {dW t1 t2 t3 aV : Addr} {tk : Nat}
abbrev nTxt : List Str := ["value", "texts"]
theorem scTxt : FnScope nTxt ["value", "texts"] (defScope (top 15)) := ⟨rfl, rfl, rfl, by decide +kernel, rfl, by decide +kernel, by decide +kernel⟩
theorem ok_txt {f : Addr} {fd : FuncData} (F : FnP K "is_text_of" (top 15) f fd) (B : Bl K mg) : FnOk P w K mg base CX0 1 f fd ["value", "texts"] (spTxt K) := by
  refine F.ok scTxt (fun vs H Q E h => ?_) (fun cdv A outer s H vs Q E hr h => ?_)
  · obtain ⟨F, v, t, d, xs, rfl, _⟩ := h
    rfl
  · obtain ⟨Fa, v, t, d, xs, rfl, hd, ht, q⟩ := h
    have sc := scTxt
    refine ⟨_, PSs.nox (pss_one (ps_ret (pe_and (pe_callB call_isi (by rfl) B.isinstance (by decide +kernel) (pa_cons (pv 0) (pa_cons (pe_bltn (v := .ty "str") (by rfl) B.str (by decide +kernel) rfl) pa_nil))) (pe_one (pe_cmpR op_in_seq (pv 0) (pv 1) (by rfl)))))), ?_⟩
    obtain ⟨ty, tyx, k1, k2, k3, k4⟩ := tyD (K := K) hd
    refine ⟨_, rfl, _, _, ty, _, _, rfl, .ty _, tyx, k4, _, rfl, ?_⟩
    cases hd with
    | str x =>
      refine ifT rfl ⟨_, rfl, _, rfl, t, _, rfl, .inr ht, rfl, flat_strs _, ?_⟩
      have e : txB (.str x) xs = inV (.str x) (xs.map V.str) := (inV_str x xs).symm
      rw [e] at q
      exact q
    | int i => exact ifF rfl q
    | bl b => exact ifF rfl q
    | non => exact ifF rfl q
    | lst f h r => exact ifF rfl q
    | tup f h r => exact ifF rfl q
    | emp f h => exact ifF rfl q
abbrev nHf : List Str := ["value"]
theorem scHf : FnScope nHf ["value"] (defScope (top 19)) := ⟨rfl, rfl, rfl, by decide +kernel, rfl, by decide +kernel, by decide +kernel⟩
theorem ok_hf {f : Addr} {fd : FuncData} (F : FnP K "_has_form" (top 19) f fd) (B : Bl K mg) (T : Pf P w K mg dW t1 t2 t3 aV tk) (hV : ∀ H, SqT K H aV (abc.map V.str)) (hX : Has P w K mg base "is_text_of" ["value", "texts"] 1 (spTxt K)) : FnOk P w K mg base CX0 2 f fd ["value"] spHf := by
  obtain ⟨fX, fdX, kX, gX, bX, GX⟩ := hX
  refine F.ok scHf (fun vs H Q E h => ?_) (fun cdv A outer s H vs Q E hr h => ?_)
  · obtain ⟨F, v, d, rfl, _⟩ := h
    rfl
  · obtain ⟨Fa, v, d, rfl, hd, q⟩ := h
    have sc := scHf
    have hrX : Room 1 _ := hr
    refine ⟨_, PSs.nox (pss_cons (ps_if (PW.pt (pw_or (pt_not (pt_val (pe_callB call_isi (by rfl) B.isinstance (by decide +kernel) (pa_cons (pv 0) (pa_cons (pe_bltn (v := .ty "tuple") (by rfl) B.tuple (by decide +kernel) rfl) pa_nil))))) (pw_or1 (pt_cmpR (op_notIn_ki T.D) (pe_callB call_len (by rfl) B.len (by decide +kernel) (pa_cons (pv 0) pa_nil)) (pe_glob (v := .ref dW) rfl T.gW rfl) (by rfl))))) (pss_one (ps_ret pe_bl)) pss_nil) (pss_cons (ps_if (pt_not (pt_val (pe_call GX hrX rfl gX kX bX .nil pass0 (pa_cons (pe_ix ix_tup (pv 0) pe_int (fun _ _ => rfl)) (pa_cons (pe_ix (ix_ki T.D) (pe_glob (v := .ref dW) rfl T.gW rfl) (pe_callB call_len (by rfl) B.len (by decide +kernel) (pa_cons (pv 0) pa_nil)) (fun _ _ => rfl)) pa_nil))))) (pss_one (ps_ret pe_bl)) pss_nil) (pss_one (ps_ret (pe_or (pe_cmpR op_ne (pe_ix ix_tup (pv 0) pe_int (fun _ _ => rfl)) pe_str (nomark _)) (pe_one (pe_call GX hrX rfl gX kX bX .nil pass0 (pa_cons (pe_ix ix_tup (pv 0) pe_int (fun _ _ => rfl)) (pa_cons (pe_glob (v := .ref aV) rfl T.gV rfl) pa_nil))))))))), ?_⟩
    obtain ⟨ty, tyx, k1, k2, k3, k4⟩ := tyD (K := K) hd
    refine ⟨_, rfl, _, _, ty, _, _, rfl, .ty _, tyx, k3, _, rfl, ?_⟩
    cases it : isTup d with
    | false =>
      refine ifT rfl ?_
      rw [hfB_notup it] at q
      exact q
    | true =>
      obtain ⟨ds, rfl⟩ := isTup_of it
      obtain ⟨a, xs, rfl, fa, ha, r⟩ := hd.tupI
      have ll := r.length
      refine ifF rfl ?_
      by_cases g : ds.length = 0 ∨ 4 ≤ ds.length
      · refine ⟨_, rfl, _, _, rfl, .inr ⟨_, SqT.of ha, rfl⟩, .inl (xs.length : Int), rfl, rfl, _, rfl, ifT (by rw [ll]; exact congrArg (fun z => !Option.isSome z) (w3_no g)) ?_⟩
        have e : hfB (.tuple ds) = false := by
          match ds, g with
          | [], _ => rfl
          | [_], g => simp at g
          | [_, _], g => simp at g
          | [_, _, _], g => simp at g
          | _ :: _ :: _ :: _ :: _, _ => rfl
        rw [e] at q
        exact q
      · obtain ⟨x, ds', t, ws, e, val, hS, no, yes⟩ : ∃ (x : PyData) (ds' : List PyData) (t : Addr) (ws : List Str), ds = x :: ds' ∧ valV (w3 t1 t2 t3) (.inl (xs.length : Int)) = some (.ref t) ∧ SqT K H t (ws.map V.str) ∧ (txB x ws = false → hfB (.tuple ds) = false) ∧
            (∀ s, x = .str s → txB x ws = true → (s ≠ "var" → hfB (.tuple ds) = true) ∧ (s = "var" → ∃ y, ds' = [y] ∧ hfB (.tuple ds) = txB y abc)) := by
          match ds, g, ll with
          | [], g, _ => exact absurd (.inl rfl) g
          | [x], _, ll =>
            refine ⟨x, [], t1, ["unit", "num"], rfl, by rw [ll]; rfl, T.s1 H, (fun h => h), fun s e h => ⟨fun _ => h, fun z => ?_⟩⟩
            rw [e, z] at h
            exact absurd h (by decide)
          | [x, y], _, ll =>
            refine ⟨x, [y], t2, ["var", "list"], rfl, by rw [ll]; rfl, T.s2 H, (fun h => ?_), fun s e h => ⟨fun z => ?_, fun z => ⟨y, rfl, ?_⟩⟩⟩
            · show (txB x ["var", "list"] && _) = false
              rw [h]; rfl
            · show (txB x ["var", "list"] && (!txB x ["var"] || _)) = true
              have : txB x ["var"] = false := by
                rw [e]
                show (["var"] : List Str).contains s = false
                simp [z]
              rw [h, this]; rfl
            · show (txB x ["var", "list"] && (!txB x ["var"] || txB y abc)) = txB y abc
              have : txB x ["var"] = true := by rw [e, z]; rfl
              rw [h, this]; rfl
          | [x, y, z], _, ll =>
            refine ⟨x, [y, z], t3, ["pair", "either", "fun"], rfl, by rw [ll]; rfl, T.s3 H, (fun h => h), fun s e h => ⟨fun _ => h, fun z => ?_⟩⟩
            rw [e, z] at h
            exact absurd h (by decide)
          | _ :: _ :: _ :: _ :: _, g, _ => exact absurd (.inr (by simp)) g
        subst e
        refine ⟨_, rfl, _, _, rfl, .inr ⟨_, SqT.of ha, rfl⟩, .inl (xs.length : Int), rfl, rfl, _, rfl, ifF (by
          have : (!(valV (w3 t1 t2 t3) (.inl (xs.length : Int))).isSome) = false := by rw [val]; rfl
          exact this) ?_⟩
        cases r with
        | @cons v0 xs' _ _ h0 r' =>
        refine ⟨_, rfl, a, _, 0, _, rfl, rfl, SqT.of ha, atI_nat (j := 0) rfl, _, rfl, _, _, rfl, .inr ⟨_, SqT.of ha, rfl⟩, .inl _, _, rfl, rfl, val, ?_⟩
        refine ⟨Fa, v0, t, x, ws, rfl, h0, hS, ⟨_, rfl, ?_⟩⟩
        cases tx : txB x ws with
        | false =>
          refine ifT rfl ?_
          rw [no tx] at q
          exact q
        | true =>
          refine ifF rfl ?_
          obtain ⟨s, rfl, _⟩ := txB_str tx
          obtain ⟨y1, y2⟩ := yes s rfl tx
          have e0 := h0.strI
          subst e0
          by_cases sv : s = "var"
          · obtain ⟨y, rfl, ey⟩ := y2 sv
            subst sv
            obtain ⟨v1, rfl, h1⟩ := r'.one
            refine ⟨_, rfl, a, _, 0, _, rfl, rfl, SqT.of ha, atI_nat (j := 0) rfl, rfl, _, rfl, ifF rfl ?_⟩
            refine ⟨_, rfl, a, _, 1, _, rfl, rfl, SqT.of ha, rfl, Fa, v1, aV, y, abc, rfl, h1, hV H, ?_⟩
            rw [ey] at q
            exact q
          · have e1 : (!decide (V.str s = V.str "var")) = true := by
              rw [decide_eq_false fun z => sv (V.str.inj z)]
              rfl
            refine ⟨_, rfl, a, _, 0, _, rfl, rfl, SqT.of ha, atI_nat (j := 0) rfl, rfl, _, rfl, ifT e1 ?_⟩
            have := y1 sv
            rw [this] at q
            exact q
end
end J2
namespace KB
open PySem L2 PySem.Spec PyProof.Rows
def pvL (p : PyData × Int) : PyData := .tuple [p.1, .int p.2]
def spPw : Sp := fun vs H Q _ => ∃ (F : Addr → Prop) (v : V) (d : PyData), vs = [v] ∧ Dt F H v d ∧ sz d ≤ 4000000 ∧ (isK d = false → ∀ H', Same H H' → Q .non H') ∧
  (isK d = true → ∀ (G : Addr) (gs : List V) (qs : List (PyData × Int)) (H' : Hp), Same H H' → H' G = some (.lst gs) → DtA (Ot []) H' gs (qs.map pvL) → qs.Perm (lv d 1) → qs.length ≤ 4000000 → Q (.ref G) H')
def msz (ps : List (PyData × Int)) : Nat := (ps.map fun p => sz p.1).sum
theorem msz_app (a b : List (PyData × Int)) : msz (a ++ b) = msz a + msz b := by
  unfold msz
  rw [List.map_append, List.sum_append]
theorem msz_kids (ks : List PyData) (l : Int) : msz (ks.map fun k => (k, l)) = (ks.map sz).sum := by
  unfold msz
  rw [List.map_map]
  rfl
theorem sz_pos (d : PyData) : 1 ≤ sz d ∨ sz d = 0 := by omega
theorem kids_pv (ks : List PyData) (l : Int) (i : Nat) (k : PyData) (h : ks[i]? = some k) : (ks.take (i + 1)).map (fun k => pvL (k, l)) = (ks.take i).map (fun k => pvL (k, l)) ++ [pvL (k, l)] := by
  rw [List.take_add_one, h, List.map_append]
  rfl
end KB
namespace J2
open PySem PySem.Spec PyProof.Rows L2 KB
section
variable {P : Program} {w : World} {K : PySem.W.Frag} {mg : Str → Option Value} {base : Heap} {dW t1 t2 t3 aV : Addr} {tk : Nat}
abbrev nPwl : List Str := ["value", "found", "waiting", "part", "level", "below"]
theorem scPwl : FnScope nPwl ["value"] (defScope (top 18)) := ⟨rfl, rfl, rfl, by decide +kernel, rfl, by decide +kernel, by decide +kernel⟩
theorem ok_pwl {f : Addr} {fd : FuncData} (F : FnP K "_parts_with_levels" (top 18) f fd) (T : Pf P w K mg dW t1 t2 t3 aV tk) (hH : Has P w K mg base "_has_form" ["value"] 2 spHf) : FnOk P w K mg base CX0 3 f fd ["value"] spPw := by
  obtain ⟨fH, fdH, kH, gH, bH, GH⟩ := hH
  refine F.ok scPwl (fun vs H Q E h => ?_) (fun cdv A outer s H vs Q E hr h => ?_)
  · obtain ⟨F, v, d, rfl, _⟩ := h
    rfl
  · obtain ⟨Fa, v, d, rfl, hd, hsz, qN, qY⟩ := h
    have sc := scPwl
    have hrH : Room 2 _ := hr
    refine ⟨_, PSs.nox (pss_cons (ps_set (i := 1) sc.nd rfl (Or.inl rfl) (pe_lst pa_nil)) (pss_cons (ps_set (i := 2) sc.nd rfl (Or.inl rfl) (pe_lst (pa_cons (pe_tup (pa_cons (pv 0) (pa_cons pe_int pa_nil))) pa_nil))) (pss_cons (ps_while PassesOwn.never (pt_truth (pv 2) (by intro _; rfl)) (pss_cons (ps_asg (pe_bm0 PySem.F.plainAttrs_list PySem.F.slot_list_pop PySem.F.type_list_pop mt_pop (pv 2)) (pg_tup rfl (pgs_cons (pg_name (i := 3) sc.nd rfl (Or.inl rfl)) (pgs_cons (pg_name (i := 4) sc.nd rfl (Or.inr rfl)) pgs_nil)))) (pss_cons (ps_if (PW.pt (pw_or (pt_cmpR op_gt (pv 4) (pe_glob (v := .int 100) rfl T.gD ⟨_, rfl⟩) (nomark _)) (pw_or1 (pt_not (pt_val (pe_call GH hrH rfl gH kH bH .nil pass0 (pa_cons (pv 3) pa_nil))))))) (pss_one (ps_ret pe_non)) pss_nil) (pss_cons (ps_expr (pe_bm PySem.F.plainAttrs_list PySem.F.slot_list_append PySem.F.type_list_append mt_append (pv 1) (pa_cons (pe_tup (pa_cons (pv 3) (pa_cons (pv 4) pa_nil))) pa_nil))) (pss_one (ps_if (pt_cmpR op_ne (pe_ix ix_tup (pv 3) pe_int (fun _ _ => rfl)) pe_str (nomark _)) (pss_one (ps_expr (pe_bm PySem.F.plainAttrs_list PySem.F.slot_list_extend PySem.F.type_list_extend mt_extend (pv 2) (pa_cons (pe_lc (own := [("below", 5)]) (g := gName 5) (tt := tYes) (by rfl) sc.nd (pi_tup (pe_slice sl_tupA (pv 3) (po_some pe_int) po_none)) (blkOk_by (own := [("below", 5)]) (N := nPwl) (sc := (defScope (top 18))) (by decide +kernel)) (fun _ _ _ _ _ => (pg_name (i := 5) sc.nd rfl (Or.inl rfl))) (fun _ _ _ _ _ => pts_nil) (fun _ _ _ _ _ => (pe_tup (pa_cons (pv 5) (pa_cons (pe_op op_add (pv 4) pe_int) pa_nil))))) pa_nil)))) pss_nil)))))) (pss_one (ps_ret (pv 1)))))), ?_⟩
    have big : ∀ k : Nat, k ≤ 1000 → k ≤ sizeLine := fun k h => Nat.le_of_lt (small1000 h)
    have h20 : ∀ k : Nat, k ≤ 16000000 → k ≤ sizeLine := fun k h => Nat.le_trans h (by decide)
    refine ⟨Nat.zero_le _, fun G nG => ?_⟩
    refine ⟨_, rfl, big _ (by show (2 : Nat) ≤ 1000; decide), fun t nt => ⟨big _ (by show (1 : Nat) ≤ 1000; decide), fun W nW => ?_⟩⟩
    have nG' : G ≠ t := fun z => by rw [← z, upd_same] at nt; cases nt
    have nGW : G ≠ W := fun z => by rw [← z, upd_ne nG', upd_same] at nW; cases nW
    have ntW : t ≠ W := fun z => by rw [← z, upd_same] at nW; cases nW
    have WH : H W = none := by
      cases e : H W with
      | none => rfl
      | some o =>
        have w1 : W ≠ G := fun z => nGW z.symm
        have w2 : W ≠ t := fun z => ntW z.symm
        rw [upd_ne w2, upd_ne w1, e] at nW
        cases nW
    have start : Same H (upd (upd (upd H G (.lst [])) t (.tup [v, .int 1])) W (.lst [.ref t])) := (Same.new nG).trans ((Same.new nt).trans (Same.new nW))
    have d0 : Dt (Ot [G, W]) (upd (upd (upd H G (.lst [])) t (.tup [v, .int 1])) W (.lst [.ref t])) v d := ((hd.any.wide WH).wide nG).keep start
    refine ⟨fun m σ H1 => ∃ (u3 u4 u5 : Option V) (ws gs : List V) (ps qs : List (PyData × Int)), σ = [some v, some (.ref G), some (.ref W), u3, u4, u5] ∧ Kp [G, W] H H1 ∧ H1 W = some (.lst ws) ∧ H1 G = some (.lst gs) ∧
      DtA (Ot [G, W]) H1 ws (ps.map pvL) ∧ DtA (Ot [G, W]) H1 gs (qs.map pvL) ∧ isK d = ps.all okB ∧ (qs ++ lvL ps).Perm (lv d 1) ∧ m = msz ps ∧ 2 * qs.length + msz ps ≤ sz d ∧ ws.length ≤ 1 + qs.length, ⟨sz d, none, none, none, [.ref t], [], [(d, 1)], [], rfl, Kp.same start, upd_same, ?_, ?_, .nil, ?_, ?_, ?_, ?_, ?_⟩, ?_⟩
    · rw [upd_ne nGW, upd_ne nG', upd_same]
    · refine .cons (.tup ?_ (by rw [upd_ne ntW, upd_same]) (.cons d0 (.cons (.int 1) .nil))) .nil
      intro z
      (rcases (List.mem_cons.mp z) with z | z)
      · exact nG' z.symm
      · exact ntW (List.mem_singleton.mp z)
    · rw [List.all_cons, List.all_nil, Bool.and_true, okB_one]
    · rw [List.nil_append, lvL, lvL, List.append_nil]
    · simp [msz]
    · simp [msz]
    · simp
    rintro m σ H1 ⟨u3, u4, u5, ws, gs, ps, qs, rfl, kp, hW, hG, dw, dg, okps, perm, rfl, cnt, wcnt⟩
    refine ⟨_, rfl, _, .inl ⟨ws, SqL.of hW, rfl⟩, ?_⟩
    rcases List.eq_nil_or_concat ps with rfl | ⟨ps', p, rfl⟩
    · cases dw
      refine ifF rfl ?_
      have thin : Same H H1 := ((kp.thin nG).thin WH).toSame
      refine ⟨_, rfl, qY okps G gs qs H1 thin hG (dg.any) (by rwa [lvL, List.append_nil] at perm) ?_⟩
      omega
    · rw [List.concat_eq_append] at okps perm cnt
      rw [List.map_concat] at dw
      obtain ⟨ws', x, rfl, dw', dx⟩ := DtA.snoc (by simpa using dw)
      obtain ⟨d1, l1⟩ := p
      obtain ⟨t', xs, rfl, ft, ht, rt⟩ := dx.tupI
      obtain ⟨kv, lv1, rfl, dk, dl⟩ := rt.two
      have el := dl.intI
      subst el
      rw [msz_app] at cnt
      have m1 : msz [(d1, l1)] = sz d1 := by simp [msz]
      rw [m1] at cnt
      rw [List.all_append, List.all_cons, List.all_nil, Bool.and_true, okB_step] at okps
      have thin1 : ∀ {H2 : Hp}, Kp [G, W] H H2 → Same H H2 := fun kp => ((kp.thin nG).thin WH).toSame
      refine ifT (by simp) ?_
      refine ⟨fun σ2 H2 => ∃ (u3 u4 u5 : Option V) (ws gs : List V) (ps2 qs : List (PyData × Int)), σ2 = [some v, some (.ref G), some (.ref W), u3, u4, u5] ∧ Kp [G, W] H H2 ∧ H2 W = some (.lst ws) ∧ H2 G = some (.lst gs) ∧
        DtA (Ot [G, W]) H2 ws (ps2.map pvL) ∧ DtA (Ot [G, W]) H2 gs (qs.map pvL) ∧ isK d = ps2.all okB ∧ (qs ++ lvL ps2).Perm (lv d 1) ∧ msz ps2 < msz (ps'.concat (d1, l1)) ∧ 2 * qs.length + msz ps2 ≤ sz d ∧ ws.length ≤ 1 + qs.length, ?_, ?_⟩
      · rintro σ2 H2 ⟨a3, a4, a5, b1, b2, b3, b4, e1, e2, e3, e4, e5, e6, e7, e8, e9, e10, e11⟩
        exact ⟨msz b3, e9, a3, a4, a5, b1, b2, b3, b4, e1, e2, e3, e4, e5, e6, e7, e8, rfl, e10, e11⟩
      refine ⟨_, rfl, .inl ⟨rfl, _, SqL.of hW⟩, W, _, .ref t', rfl, rfl, hW, by simp, ?_⟩
      rw [show (ws' ++ [V.ref t']).dropLast = ws' by simp]
      -- the part, its level
      have kA : Kp [G, W] H1 (upd H1 W (.lst ws')) := Kp.put (by simp)
      have ht1 := kA t' _ ft ht
      refine ⟨t', _, rfl, SqT.of ht1, rfl, _, _, rfl, _, _, rfl, rfl, ?_⟩
      refine ⟨_, rfl, _, _, rfl, rfl, _, rfl, ite2 (fun g => ?_) (fun g => ?_)⟩
      · -- too deep
        have g' : ¬ l1 ≤ 100 := by
          have := of_decide_eq_true g
          omega
        rw [decide_eq_false g', Bool.false_and, Bool.and_false] at okps
        exact qN okps _ (thin1 (kp.trans kA))
      have g' : l1 ≤ 100 := by
        have : ¬ (100 < l1) := of_decide_eq_false (by simpa using g)
        omega
      rw [decide_eq_true g', Bool.true_and] at okps
      refine ⟨_, rfl, Ot [G, W], kv, d1, rfl, dk.kp kA, ⟨_, rfl, ?_⟩⟩
      cases hf : hfB d1 with
      | false =>
        refine ifT rfl ?_
        rw [hf, Bool.false_and, Bool.and_false] at okps
        exact qN okps _ (thin1 (kp.trans kA))
      | true =>
      refine ifF rfl ?_
      rw [hf, Bool.true_and] at okps
      have pz := (pb_sz d1).2 hf
      obtain ⟨s1, ds1, rfl⟩ := hf_tup hf
      -- found.append
      have hG1 : (upd H1 W (.lst ws')) G = some (.lst gs) := by rw [upd_ne nGW]; exact hG
      have lg := dg.length
      rw [List.length_map] at lg
      refine ⟨_, rfl, .inl ⟨rfl, _, SqL.of hG1⟩, _, rfl, _, rfl, big _ (by show (2 : Nat) ≤ 1000; decide), fun t2 n2 => ?_⟩
      have nG2 : G ≠ t2 := ne_of_none hG1 n2
      have hW1 : (upd H1 W (.lst ws')) W = some (.lst ws') := upd_same
      have nW2 : W ≠ t2 := ne_of_none hW1 n2
      have kB := kA.trans (Kp.new (S := [G, W]) (o := .tup [kv, .int l1]) n2)
      refine ⟨G, gs, _, rfl, rfl, by rw [upd_ne nG2]; exact hG1, Nat.lt_of_le_of_lt (by omega : _ ≤ 4000000) (by decide), ?_⟩
      have kC : Kp [G, W] H1 _ := kB.trans (Kp.put (b := G) (o := .lst (gs ++ [.ref t2])) (by simp))
      have st2 : Ot [G, W] t2 := by
        intro z
        (rcases (List.mem_cons.mp z) with z | z)
        · exact nG2 z.symm
        · exact nW2 (List.mem_singleton.mp z).symm
      have h2C : (upd (upd (upd H1 W (.lst ws')) t2 (.tup [kv, .int l1])) G (.lst (gs ++ [.ref t2]))) t2 = some (.tup [kv, .int l1]) := by
        rw [upd_ne (fun z => nG2 z.symm), upd_same]
      have dg2 : DtA (Ot [G, W]) (upd (upd (upd H1 W (.lst ws')) t2 (.tup [kv, .int l1])) G (.lst (gs ++ [.ref t2]))) (gs ++ [.ref t2]) ((qs ++ [((PyData.tuple (.str s1 :: ds1) : PyData), l1)]).map pvL) := by
        rw [List.map_append]
        exact (dg.kp kC).append (.cons (.tup st2 h2C (.cons (dk.kp kC) (.cons (.int l1) .nil))) .nil)
      have hWC : (upd (upd (upd H1 W (.lst ws')) t2 (.tup [kv, .int l1])) G (.lst (gs ++ [.ref t2]))) W = some (.lst ws') := by
        rw [upd_ne (fun z => nGW z.symm), upd_ne nW2, upd_same]
      have hGC : (upd (upd (upd H1 W (.lst ws')) t2 (.tup [kv, .int l1])) G (.lst (gs ++ [.ref t2]))) G = some (.lst (gs ++ [.ref t2])) := upd_same
      have dkC : Dt (Ot [G, W]) _ kv (.tuple (.str s1 :: ds1)) := dk.kp kC
      have dwC := dw'.kp kC
      generalize upd (upd (upd H1 W (.lst ws')) t2 (.tup [kv, .int l1])) G (.lst (gs ++ [.ref t2])) = HC at kC dg2 hWC hGC dkC dwC ⊢
      rw [lvL_app, show lvL [((PyData.tuple (.str s1 :: ds1) : PyData), l1)] = lv (PyData.tuple (.str s1 :: ds1)) l1 ++ [] from rfl, List.append_nil, lv_step hf] at perm
      have permN : ∀ ks : List PyData, ks = pb (.tuple (.str s1 :: ds1)) → ((qs ++ [((PyData.tuple (.str s1 :: ds1) : PyData), l1)]) ++ lvL (ps' ++ ks.map fun k => (k, l1 + 1))).Perm (lv d 1) := fun ks e => by
        rw [e, lvL_app]
        refine List.Perm.trans ?_ perm
        rw [List.append_assoc]
        refine List.Perm.append_left qs ?_
        exact (List.perm_middle (a := ((PyData.tuple (.str s1 :: ds1) : PyData), l1)) (l₁ := lvL ps') (l₂ := lvL ((pb (PyData.tuple (.str s1 :: ds1))).map fun e => (e, l1 + 1)))).symm
      obtain ⟨ak, ys, rfl, fk, hk, rk⟩ := id dkC.tupI
      cases rk with
      | @cons y0 ys' _ _ hy0 rk' =>
      have ey := hy0.strI
      subst ey
      refine ⟨_, rfl, ak, _, 0, _, rfl, rfl, SqT.of hk, atI_nat (j := 0) rfl, rfl, _, rfl, ?_⟩
      have lw := dw'.length
      rw [List.length_map] at lw
      have wcnt' : ws'.length ≤ qs.length := by
        rw [List.length_append] at wcnt
        have : ([V.ref t'] : List V).length = 1 := rfl
        omega
      by_cases sv : s1 = "var"
      · subst sv
        refine ifF rfl ?_
        have ep : pb (.tuple (.str "var" :: ds1)) = [] := by rw [pb]; rfl
        rw [ep] at okps
        refine ⟨_, _, _, ws', gs ++ [.ref t2], ps', qs ++ [(.tuple (.str "var" :: ds1), l1)], rfl, kp.trans kC, hWC, hGC, dwC, dg2, by rw [okps, List.all_nil, Bool.and_true], ?_, ?_, ?_, by rw [List.length_append]; show _ ≤ 1 + (qs.length + 1); omega⟩
        · have := permN [] ep.symm
          rwa [List.map_nil, List.append_nil] at this
        · rw [List.concat_eq_append, msz_app, m1]
          omega
        · rw [List.length_append]
          show 2 * (qs.length + 1) + _ ≤ _
          omega
      have ep : pb (.tuple (.str s1 :: ds1)) = ds1 := by
        rw [pb, if_neg fun z => ?_]
        obtain ⟨u, eu, mu⟩ := txB_str z
        exact sv (by rw [PyData.str.inj eu]; exact List.mem_singleton.mp mu)
      rw [ep] at okps pz
      refine ifT (by rw [decide_eq_false fun z => sv (V.str.inj z)]; rfl) ?_
      -- waiting.extend
      have stC : ∀ p, HC p = none → Ot [G, W] p := ot_new (S := [G, W]) (by
        intro a ha
        rcases List.mem_cons.mp ha with e | e
        · rw [e, hGC]; exact fun z => nomatch z
        · rw [List.mem_singleton.mp e, hWC]; exact fun z => nomatch z)
      have d3 : ds1.length ≤ 2 := by
        match ds1, hf with
        | [], _ => exact Nat.zero_le _
        | [_], _ => exact Nat.le_succ _
        | [_, _], _ => exact Nat.le_refl _
      refine ⟨_, rfl, .inl ⟨rfl, _, SqL.of hWC⟩, slC (K := K) 1 stC rfl dkC fun u HD sD dD => ?_⟩
      obtain ⟨b, xs, rfl, fb, hb, rb⟩ := dD.tupI
      have rb' : DtA (Ot [G, W]) HD xs ds1 := rb
      have lx := rb'.length
      have hGD := sD _ _ hGC
      have hWD := sD _ _ hWC
      refine ⟨b, rfl, ⟨_, SqT.of hb⟩, fun D nD => lc_tup (K := K) (a := b) (xs := xs) (fun i H2 => ∃ acc, H2 D = some (.lst acc) ∧ DtA (Ot [D, G, W]) H2 acc ((ds1.take i).map fun k => pvL (k, l1 + 1)) ∧ Same HD H2) ⟨[], upd_same, .nil, Same.new nD⟩
        (fun i H2 _ hP => SqT.of (hP.choose_spec.2.2 b _ hb)) ?_ ?_⟩
      · rintro i x H2 hi ⟨acc, hD, da, sm⟩
        obtain ⟨k2, hk2, dx⟩ := rb'.get hi
        have il : i < ds1.length := (List.getElem?_eq_some_iff.mp hk2).1
        refine ⟨rfl, ?_⟩
        refine iteT (B := ∃ acc, H2 D = some (.lst acc) ∧ DtA (Ot [D, G, W]) H2 acc ((ds1.take (i + 1)).map fun k => pvL (k, l1 + 1)) ∧ Same HD H2) ?_
        refine ⟨_, rfl, _, rfl, _, _, rfl, rfl, big _ (by show (2 : Nat) ≤ 1000; decide), fun p np => ?_⟩
        have pD : D ≠ p := ne_of_none hD np
        have la := da.length
        rw [List.length_map, List.length_take] at la
        refine ⟨acc, by rw [upd_ne pD]; exact hD, Nat.lt_of_le_of_lt (by omega : _ ≤ 10) (by decide), acc ++ [.ref p], upd_same, ?_, ?_⟩
        · rw [kids_pv _ _ i k2 hk2]
          have kk : Kp [D, G, W] H2 (upd (upd H2 p (.tup [x, .int (l1 + 1)])) D (.lst (acc ++ [.ref p]))) := (Kp.new np).trans (Kp.put (by simp))
          refine (da.kp kk).append (.cons (.tup ?_ ?_ (.cons (((dx.wide nD).keep sm).kp kk) (.cons (.int _) .nil))) .nil)
          · intro z
            (rcases (List.mem_cons.mp z) with z | z)
            · exact pD z.symm
            · (rcases (List.mem_cons.mp z) with z | z)
              · exact ne_of_none (sm _ _ hGD) np z.symm
              · exact ne_of_none (sm _ _ hWD) np (List.mem_singleton.mp z).symm
          · rw [upd_ne (fun z => pD z.symm), upd_same]
        · intro c o e
          have c1 : c ≠ D := ne_of_none e nD
          rw [upd_ne c1, upd_ne (ne_of_none (sm c o e) np)]
          exact sm c o e
      · rintro H2 ⟨acc, hD, da, sm⟩
        rw [lx, List.take_length] at da
        have la := da.length
        rw [List.length_map] at la
        have hW2 := sm _ _ hWD
        have hG2 := sm _ _ hGD
        have wD : W ≠ D := ne_of_none hWD nD
        have kE : Kp [G, W] HC (upd H2 W (.lst (ws' ++ acc))) := (Kp.same (sD.trans sm)).trans (Kp.put (by simp))
        have kF : Kp [G, W] H1 (upd H2 W (.lst (ws' ++ acc))) := kC.trans kE
        refine ⟨W, D, ws', acc, rfl, rfl, hW2, hD, h20 _ (by omega), ?_⟩
        refine ⟨_, _, _, ws' ++ acc, gs ++ [.ref t2], ps' ++ ds1.map (fun k => (k, l1 + 1)), qs ++ [(.tuple (.str s1 :: ds1), l1)], rfl, kp.trans kF, upd_same, by rw [upd_ne nGW]; exact hG2, ?_, dg2.kp kE, ?_, permN ds1 ep.symm, ?_, ?_, ?_⟩
        · rw [List.map_append, List.map_map]
          refine (dw'.kp kF).append ?_
          have : DtA (Ot [G, W]) H2 acc (ds1.map fun k => pvL (k, l1 + 1)) := da.less
          exact this.kp (Kp.put (by simp))
        · rw [okps, List.all_append, List.all_map]
          rfl
        · rw [List.concat_eq_append, msz_app, msz_app, msz_kids, m1]
          omega
        · rw [msz_app, msz_kids, List.length_append]
          show 2 * (qs.length + 1) + _ ≤ _
          omega
        · rw [List.length_append, la, List.length_append]
          show _ ≤ 1 + (qs.length + 1)
          omega
end
end J2
namespace KB
open PySem L2 PySem.Spec PyProof.Rows
def Kd.lvs : Kd → Int → List (Kd × Int)
  | num, l => [(num, l)]
  | unit, l => [(unit, l)]
  | var x, l => [(var x, l)]
  | lst a, l => (lst a, l) :: a.lvs (l + 1)
  | pair a b, l => (pair a b, l) :: (a.lvs (l + 1) ++ b.lvs (l + 1))
  | eith a b, l => (eith a b, l) :: (a.lvs (l + 1) ++ b.lvs (l + 1))
  | fn a b, l => (fn a b, l) :: (a.lvs (l + 1) ++ b.lvs (l + 1))
def kdL (p : Kd × Int) : PyData × Int := (p.1.d, p.2)
theorem lv_d : ∀ (k : Kd) (l : Int), lv k.d l = (k.lvs l).map kdL
  | .num, l => by rfl
  | .unit, l => by rfl
  | .var x, l => by rfl
  | .lst a, l => by
    have e : lv (Kd.lst a).d l = ((Kd.lst a).d, l) :: lvA [a.d] (l + 1) := by
      show lv (.tuple (.str "list" :: [a.d])) l = _
      rw [lv, if_neg (by decide)]
      rfl
    rw [e, lvA, lvA, List.append_nil, lv_d a, Kd.lvs, List.map_cons]
    rfl
  | .pair a b, l => by
    have e : lv (Kd.pair a b).d l = ((Kd.pair a b).d, l) :: lvA [a.d, b.d] (l + 1) := by
      show lv (.tuple (.str "pair" :: [a.d, b.d])) l = _
      rw [lv, if_neg (by decide)]
      rfl
    rw [e, lvA, lvA, lvA, List.append_nil, lv_d a, lv_d b, Kd.lvs, List.map_cons, List.map_append]
    rfl
  | .eith a b, l => by
    have e : lv (Kd.eith a b).d l = ((Kd.eith a b).d, l) :: lvA [a.d, b.d] (l + 1) := by
      show lv (.tuple (.str "either" :: [a.d, b.d])) l = _
      rw [lv, if_neg (by decide)]
      rfl
    rw [e, lvA, lvA, lvA, List.append_nil, lv_d a, lv_d b, Kd.lvs, List.map_cons, List.map_append]
    rfl
  | .fn a b, l => by
    have e : lv (Kd.fn a b).d l = ((Kd.fn a b).d, l) :: lvA [a.d, b.d] (l + 1) := by
      show lv (.tuple (.str "fun" :: [a.d, b.d])) l = _
      rw [lv, if_neg (by decide)]
      rfl
    rw [e, lvA, lvA, lvA, List.append_nil, lv_d a, lv_d b, Kd.lvs, List.map_cons, List.map_append]
    rfl
def nw (wd : Str) (p : PyData × Int) : Bool :=
  match p.1 with
  | .tuple (.str s :: _) => !decide (V.str s = V.str wd)
  | _ => true
theorem nw_d (wd : Str) (k : Kd) (l : Int) : nw wd (kdL (k, l)) = !decide (V.str k.word = V.str wd) := by
  cases k <;> rfl
theorem no_str {x y : Str} (h : x ≠ y) : (!decide (V.str x = V.str y)) = true := by
  rw [decide_eq_false fun z => h (V.str.inj z)]
  rfl
theorem lvs_fun : ∀ (k : Kd) (l : Int), ((k.lvs l).map kdL).all (nw "fun") = k.noFn
  | .num, l => by rfl
  | .unit, l => by rfl
  | .var x, l => by rfl
  | .lst a, l => by rw [Kd.lvs, List.map_cons, List.all_cons, lvs_fun a]; rfl
  | .pair a b, l => by rw [Kd.lvs, List.map_cons, List.all_cons, List.map_append, List.all_append, lvs_fun a, lvs_fun b]; rfl
  | .eith a b, l => by rw [Kd.lvs, List.map_cons, List.all_cons, List.map_append, List.all_append, lvs_fun a, lvs_fun b]; rfl
  | .fn a b, l => by rw [Kd.lvs, List.map_cons, List.all_cons]; rfl
theorem lvs_var : ∀ (k : Kd) (l : Int), ((k.lvs l).map kdL).all (nw "var") = k.closed
  | .num, l => by rfl
  | .unit, l => by rfl
  | .var x, l => by rfl
  | .lst a, l => by rw [Kd.lvs, List.map_cons, List.all_cons, lvs_var a]; rfl
  | .pair a b, l => by rw [Kd.lvs, List.map_cons, List.all_cons, List.map_append, List.all_append, lvs_var a, lvs_var b]; rfl
  | .eith a b, l => by rw [Kd.lvs, List.map_cons, List.all_cons, List.map_append, List.all_append, lvs_var a, lvs_var b]; rfl
  | .fn a b, l => by rw [Kd.lvs, List.map_cons, List.all_cons, List.map_append, List.all_append, lvs_var a, lvs_var b]; rfl
theorem lvs_le : ∀ (k : Kd) (l : Int), ∀ p ∈ k.lvs l, p.2 + 1 ≤ l + k.dep
  | .num, l => fun p h => by rw [List.mem_singleton.mp h]; show l + 1 ≤ l + 1; omega
  | .unit, l => fun p h => by rw [List.mem_singleton.mp h]; show l + 1 ≤ l + 1; omega
  | .var _, l => fun p h => by rw [List.mem_singleton.mp h]; show l + 1 ≤ l + 1; omega
  | .lst a, l => fun p h => by
    have e : (Kd.lst a).dep = a.dep + 1 := rfl
    rcases List.mem_cons.mp h with h | h
    · rw [h]; show l + 1 ≤ _; omega
    · have := lvs_le a _ p h; omega
  | .pair a b, l => fun p h => by
    have e : (Kd.pair a b).dep = max a.dep b.dep + 1 := rfl
    rcases List.mem_cons.mp h with h | h
    · rw [h]; show l + 1 ≤ _; omega
    · (rcases List.mem_append.mp h with h | h)
      · have := lvs_le a _ p h; omega
      · have := lvs_le b _ p h; omega
  | .eith a b, l => fun p h => by
    have e : (Kd.eith a b).dep = max a.dep b.dep + 1 := rfl
    rcases List.mem_cons.mp h with h | h
    · rw [h]; show l + 1 ≤ _; omega
    · (rcases List.mem_append.mp h with h | h)
      · have := lvs_le a _ p h; omega
      · have := lvs_le b _ p h; omega
  | .fn a b, l => fun p h => by
    have e : (Kd.fn a b).dep = max a.dep b.dep + 1 := rfl
    rcases List.mem_cons.mp h with h | h
    · rw [h]; show l + 1 ≤ _; omega
    · (rcases List.mem_append.mp h with h | h)
      · have := lvs_le a _ p h; omega
      · have := lvs_le b _ p h; omega
theorem lvs_top : ∀ (k : Kd) (l : Int), ∃ p ∈ k.lvs l, p.2 + 1 = l + k.dep
  | .num, l => ⟨_, List.mem_singleton.mpr rfl, rfl⟩
  | .unit, l => ⟨_, List.mem_singleton.mpr rfl, rfl⟩
  | .var _, l => ⟨_, List.mem_singleton.mpr rfl, rfl⟩
  | .lst a, l => by
    have e : (Kd.lst a).dep = a.dep + 1 := rfl
    obtain ⟨p, m, h⟩ := lvs_top a (l + 1)
    exact ⟨p, List.mem_cons_of_mem _ m, by omega⟩
  | .pair a b, l => by
    have e : (Kd.pair a b).dep = max a.dep b.dep + 1 := rfl
    obtain ⟨p, m, h⟩ := lvs_top a (l + 1)
    obtain ⟨q, n, g⟩ := lvs_top b (l + 1)
    by_cases c : b.dep ≤ a.dep
    · exact ⟨p, List.mem_cons_of_mem _ (List.mem_append_left _ m), by omega⟩
    · exact ⟨q, List.mem_cons_of_mem _ (List.mem_append_right _ n), by omega⟩
  | .eith a b, l => by
    have e : (Kd.eith a b).dep = max a.dep b.dep + 1 := rfl
    obtain ⟨p, m, h⟩ := lvs_top a (l + 1)
    obtain ⟨q, n, g⟩ := lvs_top b (l + 1)
    by_cases c : b.dep ≤ a.dep
    · exact ⟨p, List.mem_cons_of_mem _ (List.mem_append_left _ m), by omega⟩
    · exact ⟨q, List.mem_cons_of_mem _ (List.mem_append_right _ n), by omega⟩
  | .fn a b, l => by
    have e : (Kd.fn a b).dep = max a.dep b.dep + 1 := rfl
    obtain ⟨p, m, h⟩ := lvs_top a (l + 1)
    obtain ⟨q, n, g⟩ := lvs_top b (l + 1)
    by_cases c : b.dep ≤ a.dep
    · exact ⟨p, List.mem_cons_of_mem _ (List.mem_append_left _ m), by omega⟩
    · exact ⟨q, List.mem_cons_of_mem _ (List.mem_append_right _ n), by omega⟩
theorem all_perm {α : Type} {a b : List α} (p : α → Bool) (h : a.Perm b) : a.all p = b.all p := by
  (rw [Bool.eq_iff_iff, List.all_eq_true, List.all_eq_true])
  exact ⟨fun g x m => g x (h.mem_iff.mpr m), fun g x m => g x (h.mem_iff.mp m)⟩
def spKwG : Sp := fun vs H Q _ => ∃ (F : Addr → Prop) (v : V) (d : PyData) (wd : Str), vs = [v, .str wd] ∧ Dt F H v d ∧ sz d ≤ 4000000 ∧ (wd = "fun" ∨ wd = "var") ∧ ∀ H', Same H H' → Q (.bl (if wd = "fun" then isDk d else isCk d)) H'
def spIsG (f : PyData → Bool) : Sp := fun vs H Q _ => ∃ (F : Addr → Prop) (v : V) (d : PyData), vs = [v] ∧ Dt F H v d ∧ sz d ≤ 4000000 ∧ ∀ H', Same H H' → Q (.bl (f d)) H'
def spTp : Sp := fun vs H Q _ => ∃ (F : Addr → Prop) (v : V) (k : Kd), vs = [v] ∧ Dt F H v k.d ∧ k.okv = true ∧ k.dep ≤ 100 ∧ sz k.d ≤ 4000000 ∧
  ∀ (G : Addr) (gs : List V) (qs : List (PyData × Int)) (H' : Hp), Same H H' → H' G = some (.lst gs) → DtA (Ot []) H' gs (qs.map pvL) → qs.Perm ((k.lvs 1).map kdL) → qs.length ≤ 4000000 → Q (.ref G) H'
def spDpk : Sp := fun vs H Q _ => ∃ (F : Addr → Prop) (v : V) (k : Kd), vs = [v] ∧ Dt F H v k.d ∧ k.okv = true ∧ k.dep ≤ 100 ∧ sz k.d ≤ 4000000 ∧ ∀ H', Same H H' → Q (.int k.dep) H'
theorem isK_d {k : Kd} (h : k.okv = true) (d : k.dep ≤ 100) : isK k.d = true := by
  rw [isK, isF_d k h, Kd.depth, decide_eq_true d]
  rfl
end KB
namespace J2
open PySem PySem.Spec PyProof.Rows L2 KB
section
variable {K : PySem.W.Frag} {mg : Str → Option Value} {base : Heap} {P : Program} {w : World}
abbrev nKw : List Str := ["value", "word", "found", "part", "level"]
theorem scKw : FnScope nKw ["value", "word"] (defScope (top 16)) := ⟨rfl, rfl, rfl, by decide +kernel, rfl, by decide +kernel, by decide +kernel⟩
theorem ok_kw {f : Addr} {fd : FuncData} (F : FnP K "_is_kind_without" (top 16) f fd) (B : Bl K mg) (hP : Has P w K mg base "_parts_with_levels" ["value"] 3 spPw) : FnOk P w K mg base CX0 4 f fd ["value", "word"] spKwG := by
  obtain ⟨fP, fdP, kP, gP, bP, GP⟩ := hP
  refine F.ok scKw (fun vs H Q E h => ?_) (fun cdv A outer s H vs Q E hr h => ?_)
  · obtain ⟨F, v, d, wd, rfl, _⟩ := h
    rfl
  · obtain ⟨Fa, v, d, wd, rfl, hd, hsz, hwd, q⟩ := h
    have sc := scKw
    have hrP : Room 3 _ := hr
    refine ⟨_, PSs.nox (pss_cons (ps_set (i := 2) sc.nd rfl (Or.inl rfl) (pe_call GP hrP rfl gP kP bP .nil pass0 (pa_cons (pv 0) pa_nil))) (pss_one (ps_ret (pe_and (pe_cmpR op_notN (pv 2) pe_non (nomark _)) (pe_one (pe_callB (cr_all rfl) (by rfl) B.all (by decide +kernel) (pa_cons (pe_lc (own := [("part", 3), ("level", 4)]) (tt := tYes) (by rfl) sc.nd (pi_list (pv 2)) (blkOk_by (own := [("part", 3), ("level", 4)]) (N := nKw) (sc := (defScope (top 16))) (by decide +kernel)) (fun _ _ _ _ _ => (pgT (K := K) (n := 2) rfl rfl (pgs_cons (pg_name (i := 3) sc.nd rfl (Or.inl rfl)) (pgs_cons (pg_name (i := 4) sc.nd rfl (Or.inl rfl)) pgs_nil)))) (fun _ _ _ _ _ => pts_nil) (fun _ _ _ _ _ => (pe_cmpR op_ne (pe_ix (ixT (K := K) rfl) (pv 3) pe_int (fun _ _ => rfl)) (pv 1) (nomark _)))) pa_nil))))))), ?_⟩
    refine ⟨_, rfl, Fa, v, d, rfl, hd, hsz, fun ik H1 s1 => ?_, fun ik G gs qs H1 s1 hG dg perm cnt => ?_⟩
    · refine ⟨_, rfl, rfl, _, rfl, ifF rfl ?_⟩
      have := q H1 s1
      rw [isDk, isCk, ik, Bool.false_and, Bool.false_and, ite_self] at this
      exact this
    obtain ⟨k, rfl, ov, dp⟩ := isK_ok ik
    rw [lv_d] at perm
    have lg := dg.length
    rw [List.length_map] at lg
    refine ⟨_, rfl, rfl, _, rfl, ifT rfl ?_⟩
    refine ⟨_, rfl, G, rfl, ⟨_, SqL.of hG⟩, fun D nD => lc_list (K := K) (a := G) (xs := gs) (fun i H2 => Same H1 H2 ∧ H2 D = some (.lst (((qs.take i).map (nw wd)).map V.bl))) ⟨Same.new nD, upd_same⟩ (fun i H2 _ hP => SqL.of (hP.1 G _ hG)) ?_ ?_⟩
    · rintro i e H2 hi ⟨sm, hD⟩
      obtain ⟨de, hde, dte⟩ := dg.get hi
      have il : i < gs.length := (List.getElem?_eq_some_iff.mp hi).1
      obtain ⟨p1, hk1, rfl⟩ : ∃ p, qs[i]? = some p ∧ pvL p = de := by
        rw [List.getElem?_map] at hde
        cases e : qs[i]? with
        | none => rw [e] at hde; cases hde
        | some k2 => rw [e] at hde; exact ⟨k2, rfl, Option.some.inj hde⟩
      have mem := perm.mem_iff.mp (List.mem_of_getElem? hk1)
      obtain ⟨⟨k1, l1⟩, _, rfl⟩ := List.mem_map.mp mem
      obtain ⟨t, xs, rfl, ft, ht, rt⟩ := dte.tupI
      obtain ⟨kv, lv1, rfl, dk, dl⟩ := rt.two
      have el := dl.intI
      subst el
      obtain ⟨ds, ek⟩ : ∃ ds, k1.d = .tuple (.str k1.word :: ds) := by
        cases k1 <;> exact ⟨_, rfl⟩
      have dk' : Dt (Ot []) H1 kv k1.d := dk
      rw [ek] at dk'
      obtain ⟨a, ys, rfl, fa, ha, ra⟩ := dk'.tupI
      cases ra with
      | @cons y0 ys' _ _ h0 ra' =>
      have e0 := h0.strI
      subst e0
      refine ⟨t, _, rfl, SqT.of (sm t _ ht), rfl, _, _, rfl, _, _, rfl, rfl, rfl, ?_⟩
      refine iteT (B := Same H1 H2 ∧ H2 D = some (.lst (((qs.take (i + 1)).map (nw wd)).map V.bl))) ?_
      refine ⟨_, rfl, a, _, 0, _, rfl, rfl, SqT.of (sm a _ ha), atI_nat (j := 0) rfl, _, rfl, rfl, _, hD, Nat.lt_of_le_of_lt (by rw [List.length_map, List.length_map, List.length_take]; omega : _ ≤ 4000000) (by decide), fun b o e2 => ?_, ?_⟩
      · rw [upd_ne (ne_of_none e2 nD)]
        exact sm b o e2
      · rw [upd_same, List.take_add_one, hk1, List.map_append, List.map_append]
        show _ = some (HO.lst (_ ++ [V.bl (nw wd (kdL (k1, l1)))]))
        rw [nw_d]
    · rintro H2 ⟨sm, hD⟩
      rw [lg, List.take_length] at hD
      refine ⟨D, _, rfl, SqL.of hD, ?_⟩
      have e : (qs.map (nw wd)).all id = (if wd = "fun" then isDk k.d else isCk k.d) := by
        rw [List.all_map]
        show qs.all (nw wd) = _
        rw [all_perm _ perm]
        rcases hwd with rfl | rfl
        · rw [lvs_fun, if_pos rfl, isDk, ik, nf_d]; rfl
        · rw [lvs_var, if_neg (by decide), isCk, ik, cl_d]; rfl
      rw [e]
      exact q H2 (s1.trans sm)
abbrev nIs : List Str := ["value"]
theorem scIs : FnScope nIs ["value"] (defScope (top 9)) := ⟨rfl, rfl, rfl, by decide +kernel, rfl, by decide +kernel, by decide +kernel⟩
theorem scDk : FnScope nIs ["value"] (defScope (top 10)) := ⟨rfl, rfl, rfl, by decide +kernel, rfl, by decide +kernel, by decide +kernel⟩
theorem scCk : FnScope nIs ["value"] (defScope (top 11)) := ⟨rfl, rfl, rfl, by decide +kernel, rfl, by decide +kernel, by decide +kernel⟩
theorem ok_is {f : Addr} {fd : FuncData} (F : FnP K "is_kind" (top 9) f fd) (hP : Has P w K mg base "_parts_with_levels" ["value"] 3 spPw) : FnOk P w K mg base CX0 4 f fd ["value"] (spIsG isK) := by
  obtain ⟨fP, fdP, kP, gP, bP, GP⟩ := hP
  refine F.ok scIs (fun vs H Q E h => ?_) (fun cdv A outer s H vs Q E hr h => ?_)
  · obtain ⟨F, v, d, rfl, _⟩ := h
    rfl
  · obtain ⟨Fa, v, d, rfl, hd, hsz, q⟩ := h
    have sc := scIs
    have hrP : Room 3 _ := hr
    refine ⟨_, PSs.nox (pss_one (ps_ret (pe_cmpR op_notN (pe_call GP hrP rfl gP kP bP .nil pass0 (pa_cons (pv 0) pa_nil)) pe_non (nomark _)))), ?_⟩
    refine ⟨_, rfl, Fa, v, d, rfl, hd, hsz, fun ik H1 s1 => ⟨rfl, ?_⟩, fun ik G gs qs H1 s1 hG dg perm cnt => ⟨rfl, ?_⟩⟩
    · have := q H1 s1
      rw [ik] at this
      exact this
    · have := q H1 s1
      rw [ik] at this
      exact this
theorem ok_dk {f : Addr} {fd : FuncData} (F : FnP K "is_data_kind" (top 10) f fd) (hW : Has P w K mg base "_is_kind_without" ["value", "word"] 4 spKwG) : FnOk P w K mg base CX0 5 f fd ["value"] (spIsG isDk) := by
  obtain ⟨fW, fdW, kW, gW, bW, GW⟩ := hW
  refine F.ok scDk (fun vs H Q E h => ?_) (fun cdv A outer s H vs Q E hr h => ?_)
  · obtain ⟨F, v, d, rfl, _⟩ := h
    rfl
  · obtain ⟨Fa, v, d, rfl, hd, hsz, q⟩ := h
    have sc := scDk
    have hrW : Room 4 _ := hr
    refine ⟨_, PSs.nox (pss_one (ps_ret (pe_call GW hrW rfl gW kW bW .nil pass0 (pa_cons (pv 0) (pa_cons pe_str pa_nil))))), ?_⟩
    exact ⟨_, rfl, Fa, v, d, _, rfl, hd, hsz, .inl rfl, q⟩
theorem ok_ck {f : Addr} {fd : FuncData} (F : FnP K "is_closed_kind" (top 11) f fd) (hW : Has P w K mg base "_is_kind_without" ["value", "word"] 4 spKwG) : FnOk P w K mg base CX0 5 f fd ["value"] (spIsG isCk) := by
  obtain ⟨fW, fdW, kW, gW, bW, GW⟩ := hW
  refine F.ok scCk (fun vs H Q E h => ?_) (fun cdv A outer s H vs Q E hr h => ?_)
  · obtain ⟨F, v, d, rfl, _⟩ := h
    rfl
  · obtain ⟨Fa, v, d, rfl, hd, hsz, q⟩ := h
    have sc := scCk
    have hrW : Room 4 _ := hr
    refine ⟨_, PSs.nox (pss_one (ps_ret (pe_call GW hrW rfl gW kW bW .nil pass0 (pa_cons (pv 0) (pa_cons pe_str pa_nil))))), ?_⟩
    exact ⟨_, rfl, Fa, v, d, _, rfl, hd, hsz, .inr rfl, fun H' s' => by have := q H' s'; rwa [if_neg (by decide)]⟩
abbrev nTp : List Str := ["kind", "found"]
theorem scTp : FnScope nTp ["kind"] (defScope (top 17)) := ⟨rfl, rfl, rfl, by decide +kernel, rfl, by decide +kernel, by decide +kernel⟩
theorem ok_tp {f : Addr} {fd : FuncData} (F : FnP K "_told_parts" (top 17) f fd) (hP : Has P w K mg base "_parts_with_levels" ["value"] 3 spPw) : FnOk P w K mg base CX0 4 f fd ["kind"] spTp := by
  obtain ⟨fP, fdP, kP, gP, bP, GP⟩ := hP
  refine F.ok scTp (fun vs H Q E h => ?_) (fun cdv A outer s H vs Q E hr h => ?_)
  · obtain ⟨F, v, k, rfl, _⟩ := h
    rfl
  · obtain ⟨Fa, v, k, rfl, hd, ov, dp, hsz, q⟩ := h
    have sc := scTp
    have hrP : Room 3 _ := hr
    refine ⟨_, PSs.nox (pss_cons (ps_set (i := 1) sc.nd rfl (Or.inl rfl) (pe_call GP hrP rfl gP kP bP .nil pass0 (pa_cons (pv 0) pa_nil))) (pss_cons (ps_if (pt_cmpR op_isN (pv 1) pe_non (nomark _)) (pss_one (ps_never)) pss_nil) (pss_one (ps_ret (pv 1))))), ?_⟩
    refine ⟨_, rfl, Fa, v, k.d, rfl, hd, hsz, fun ik H1 s1 => ?_, fun ik G gs qs H1 s1 hG dg perm cnt => ?_⟩
    · rw [isK_d ov dp] at ik
      cases ik
    · rw [lv_d] at perm
      exact ⟨_, rfl, rfl, _, rfl, ifF rfl ⟨_, rfl, q G gs qs H1 s1 hG dg perm cnt⟩⟩
abbrev nDp : List Str := ["kind", "part", "level"]
theorem scDp : FnScope nDp ["kind"] (defScope (top 12)) := ⟨rfl, rfl, rfl, by decide +kernel, rfl, by decide +kernel, by decide +kernel⟩
theorem ok_dp {f : Addr} {fd : FuncData} (F : FnP K "depth_of_kind" (top 12) f fd) (B : Bl K mg) (hP : Has P w K mg base "_told_parts" ["kind"] 4 spTp) : FnOk P w K mg base CX0 5 f fd ["kind"] spDpk := by
  obtain ⟨fP, fdP, kP, gP, bP, GP⟩ := hP
  refine F.ok scDp (fun vs H Q E h => ?_) (fun cdv A outer s H vs Q E hr h => ?_)
  · obtain ⟨F, v, k, rfl, _⟩ := h
    rfl
  · obtain ⟨Fa, v, k, rfl, hd, ov, dp, hsz, q⟩ := h
    have sc := scDp
    have hrP : Room 4 _ := hr
    refine ⟨_, PSs.nox (pss_one (ps_ret (pe_callB (cr_max rfl) (by rfl) B.max (by decide +kernel) (pa_cons (pe_lc (own := [("part", 1), ("level", 2)]) (tt := tYes) (by rfl) sc.nd (pi_list (pe_call GP hrP rfl gP kP bP .nil pass0 (pa_cons (pv 0) pa_nil))) (blkOk_by (own := [("part", 1), ("level", 2)]) (N := nDp) (sc := (defScope (top 12))) (by decide +kernel)) (fun _ _ _ _ _ => (pgT (K := K) (n := 2) rfl rfl (pgs_cons (pg_name (i := 1) sc.nd rfl (Or.inl rfl)) (pgs_cons (pg_name (i := 2) sc.nd rfl (Or.inl rfl)) pgs_nil)))) (fun _ _ _ _ _ => pts_nil) (fun _ _ _ _ _ => (pv 2))) pa_nil)))), ?_⟩
    refine ⟨_, rfl, Fa, v, k, rfl, hd, ov, dp, hsz, fun G gs qs H1 s1 hG dg perm cnt => ?_⟩
    have lg := dg.length
    rw [List.length_map] at lg
    refine ⟨G, rfl, ⟨_, SqL.of hG⟩, fun D nD => lc_list (K := K) (a := G) (xs := gs) (fun i H2 => Same H1 H2 ∧ H2 D = some (.lst (((qs.take i).map Prod.snd).map V.int))) ⟨Same.new nD, upd_same⟩ (fun i H2 _ hP => SqL.of (hP.1 G _ hG)) ?_ ?_⟩
    · rintro i e H2 hi ⟨sm, hD⟩
      obtain ⟨de, hde, dte⟩ := dg.get hi
      have il : i < gs.length := (List.getElem?_eq_some_iff.mp hi).1
      obtain ⟨p1, hk1, rfl⟩ : ∃ p, qs[i]? = some p ∧ pvL p = de := by
        rw [List.getElem?_map] at hde
        cases e : qs[i]? with
        | none => rw [e] at hde; cases hde
        | some k2 => rw [e] at hde; exact ⟨k2, rfl, Option.some.inj hde⟩
      obtain ⟨t, xs, rfl, ft, ht, rt⟩ := dte.tupI
      obtain ⟨kv, lv1, rfl, dk, dl⟩ := rt.two
      have el := dl.intI
      subst el
      refine ⟨t, _, rfl, SqT.of (sm t _ ht), rfl, _, _, rfl, _, _, rfl, rfl, rfl, ?_⟩
      refine iteT (B := Same H1 H2 ∧ H2 D = some (.lst (((qs.take (i + 1)).map Prod.snd).map V.int))) ?_
      refine ⟨_, rfl, _, hD, Nat.lt_of_le_of_lt (by rw [List.length_map, List.length_map, List.length_take]; omega : _ ≤ 4000000) (by decide), fun b o e2 => ?_, ?_⟩
      · rw [upd_ne (ne_of_none e2 nD)]
        exact sm b o e2
      · rw [upd_same, List.take_add_one, hk1, List.map_append, List.map_append]
        rfl
    · rintro H2 ⟨sm, hD⟩
      rw [lg, List.take_length] at hD
      obtain ⟨p0, m0, h0⟩ := lvs_top k 1
      have m1 : p0.2 ∈ qs.map Prod.snd := List.mem_map.mpr ⟨kdL p0, perm.mem_iff.mpr (List.mem_map.mpr ⟨p0, m0, rfl⟩), rfl⟩
      refine ⟨D, _, rfl, SqL.of hD, List.length_pos_of_mem m1, fun m hm hle => ?_⟩
      have e : m = (k.dep : Int) := by
        have h1 := hle _ m1
        obtain ⟨q1, hq1, rfl⟩ := List.mem_map.mp hm
        obtain ⟨p2, hp2, rfl⟩ := List.mem_map.mp (perm.mem_iff.mp hq1)
        have h2 := lvs_le k 1 p2 hp2
        have h3 : (kdL p2).2 = p2.2 := rfl
        omega
      rw [e]
      exact q H2 (s1.trans sm)
end
end J2
namespace KB
open PySem L2 PySem.Spec PyProof.Rows
def spKd2 (n : Nat) : Sp := fun vs H Q _ => ∃ (w : Addr) (wh c : Int), vs = [.ref w, .int n, .int wh] ∧ Wl H w c ∧ c + Ck n < 2 ^ 60 ∧
  ∀ (v : V) (k : Kd) (c' : Int) (H' : Hp), Dt (Nw w) H' v k.d → k.dep ≤ max n 1 → (2 ≤ wh → k.closed = true) → (wh = 1 ∨ wh = 2 → k.noFn = true) → k.okv = true → Kw w H H' → Wl H' w c' → c' ≤ c + Ck n → Q v H'
end KB
namespace J2
open PySem PySem.Spec PyProof.Rows L2 KB
section
variable {K : PySem.W.Frag} {mg : Str → Option Value} {base : Heap} {P : Program} {w : World}
abbrev nKd2 : List Str := ["_law_well_here", "_law_deep", "_law_which", "_law_branch", "_law_word", "_law_one"]
theorem scKd2 : FnScope nKd2 ["_law_well_here", "_law_deep", "_law_which"] (defScope (top 31)) := ⟨rfl, rfl, rfl, by decide +kernel, rfl, by decide +kernel, by decide +kernel⟩
theorem kd2_body (n : Nat) {f fD fP : Addr} {fd fdD fdP : FuncData} {spR : Sp} (F : FnP K "_law_kind" (top 31) f fd) (T : Bl K mg)
    (FD : FnP K "_law_draw" (top 27) fD fdD) (gD : mg "_law_draw" = some (.ref fD)) (bD : Binds K fdD ["_law_well_here", "_law_many"] [])
    (FP : FnP K "_law_pick" (top 28) fP fdP) (gP : mg "_law_pick" = some (.ref fP)) (bP : Binds K fdP ["_law_well_here", "_law_some"] [])
    (gR : mg "_law_kind" = some (.ref f)) (bR : Binds K fd ["_law_well_here", "_law_deep", "_law_which"] []) (GR : FnOk P w K mg base CX0 (3 + n) f fd ["_law_well_here", "_law_deep", "_law_which"] spR)
    (hR : ∀ m, n = m + 1 → ∀ vs H Q, spKd2 m vs H Q E0 → spR vs H Q E0) : FnOk P w K mg base CX0 (3 + n + 1) f fd ["_law_well_here", "_law_deep", "_law_which"] (spKd2 n) := by
  have GD : FnOk P w K mg base CX0 1 fD fdD ["_law_well_here", "_law_many"] spDraw := ok_draw FD T
  have GP : FnOk P w K mg base CX0 2 fP fdP ["_law_well_here", "_law_some"] (spPick K) := ok_pick FP T FD gD bD
  refine F.ok scKd2 (fun vs H Q E h => ?_) (fun cdv A outer s H vs Q E hr h => ?_)
  · obtain ⟨w, wh, c, rfl, _⟩ := h
    rfl
  · obtain ⟨w, wh, c, rfl, hw, hc, q⟩ := h
    have sc := scKd2
    have hrD : Room 1 _ := hr.mono (by omega)
    have hrP : Room 2 _ := hr.mono (by omega)
    have hrR : Room (3 + n) _ := hr
    have t2 := Ck_ge n
    refine ⟨_, PSs.nox (pss_cons (ps_set (i := 3) sc.nd rfl (Or.inl rfl) (pe_ifExp (pt_cmpR op_gt (pv 1) pe_int (nomark _)) (pe_call GD hrD rfl gD FD.kp bD .nil pass0 (pa_cons (pv 0) (pa_cons pe_int pa_nil))) (pe_call GD hrD rfl gD FD.kp bD .nil pass0 (pa_cons (pv 0) (pa_cons pe_int pa_nil))))) (pss_cons (ps_if (pt_cmpR op_lt (pv 3) pe_int (nomark _)) (pss_cons (ps_if (PW.pt (pw_and (pt_cmpR op_lt (pv 3) pe_int (nomark _)) (pw_and1 (pt_cmpR op_lt (pv 2) pe_int (nomark _))))) (pss_one (ps_ret (pe_tup (pa_cons pe_str (pa_cons (pe_call GP hrP rfl gP FP.kp bP .nil pass0 (pa_cons (pv 0) (pa_cons (pe_tup (pa_cons pe_str (pa_cons pe_str (pa_cons pe_str pa_nil)))) pa_nil))) pa_nil))))) pss_nil) (pss_one (ps_ret (pe_ifExp (pt_cmpR op_eq (pv 3) pe_int (nomark _)) (pe_tup (pa_cons pe_str pa_nil)) (pe_tup (pa_cons pe_str pa_nil)))))) pss_nil) (pss_cons (ps_set (i := 4) sc.nd rfl (Or.inl rfl) (pe_ix ix_tup (pe_tup (pa_cons pe_str (pa_cons pe_str (pa_cons pe_str (pa_cons pe_str (pa_cons pe_str (pa_cons pe_str (pa_cons pe_str (pa_cons pe_str pa_nil))))))))) (pe_op op_sub (pv 3) pe_int) (fun _ _ => rfl))) (pss_cons (ps_set (i := 5) sc.nd rfl (Or.inl rfl) (pe_call GR hrR rfl gR F.kp bR .nil pass0 (pa_cons (pv 0) (pa_cons (pe_op op_sub (pv 1) pe_int) (pa_cons (pv 2) pa_nil))))) (pss_cons (ps_if (pt_cmpR op_eq (pv 4) pe_str (nomark _)) (pss_one (ps_ret (pe_tup (pa_cons (pv 4) (pa_cons (pv 5) pa_nil))))) pss_nil) (pss_cons (ps_if (PW.pt (pw_and (pt_cmpR op_eq (pv 4) pe_str (nomark _)) (pw_and1 (pt_cmpR op_in_seq (pv 2) (pe_tup (pa_cons pe_int (pa_cons pe_int pa_nil))) (by rfl))))) (pss_one (ps_set (i := 4) sc.nd rfl (Or.inl rfl) pe_str)) pss_nil) (pss_one (ps_ret (pe_tup (pa_cons (pv 4) (pa_cons (pv 5) (pa_cons (pe_call GR hrR rfl gR F.kp bR .nil pass0 (pa_cons (pv 0) (pa_cons (pe_op op_sub (pv 1) pe_int) (pa_cons (pv 2) pa_nil)))) pa_nil)))))))))))), ?_⟩
    -- the branch
    refine kind_draw (n := n) rfl rfl hw (by omega) fun b c1 H1 b0 b1 k1 w1 e1 => ?_
    have big : ∀ k : Nat, k ≤ 1000 → k ≤ sizeLine := fun k h => Nat.le_of_lt (small1000 h)
    have lay : ∀ {c2 : Int} {H2 : Hp} {p : Addr} {xs : List V} {ds : List PyData}, Wl H2 w c2 → H2 p = none → DtA (Nw w) H2 xs ds → Dt (Nw w) (upd H2 p (.tup xs)) (.ref p) (.tuple ds) := fun w2 np dd =>
      .tup (w2.ne np).symm upd_same (dd.kw (Kw.new np))
    refine ⟨_, rfl, _, _, rfl, rfl, _, rfl, ite2 (fun g => ?_) (fun g => ?_)⟩
    · have leaf : ∀ {Q' : VK}, (∀ v H', Q' v H' = Q v H') → tIf (tTest (tOp rEq (tVar 3) (tC (V.int 3)))) (tTup (tCons (tC (V.str "unit")) tNil)) (tTup (tCons (tC (V.str "num")) tNil)) [some (.ref w), some (.int n), some (.int wh), some (.int b), none, none] H1 Q' := fun hQ => by
        refine ⟨_, rfl, rfl, _, rfl, ite2 (fun g3 => ?_) (fun g3 => ?_)⟩
        · refine ⟨big _ (by decide), fun p np => ?_⟩
          rw [hQ]
          exact q _ .unit c1 _ (lay w1 np (.cons (.str _) .nil)) (Nat.le_max_right _ _) (fun _ => rfl) (fun _ => rfl) rfl (k1.trans (Kw.new np)) (w1.same (Same.new np)) (by omega)
        · refine ⟨big _ (by decide), fun p np => ?_⟩
          rw [hQ]
          exact q _ .num c1 _ (lay w1 np (.cons (.str _) .nil)) (Nat.le_max_right _ _) (fun _ => rfl) (fun _ => rfl) rfl (k1.trans (Kw.new np)) (w1.same (Same.new np)) (by omega)
      refine ⟨_, rfl, _, _, rfl, rfl, _, rfl, ite2 (fun g1 => ?_) (fun g1 => ?_)⟩
      · refine ⟨_, rfl, _, _, rfl, rfl, _, rfl, ite2 (fun g2 => ?_) (fun g2 => ?_)⟩
        · -- a variable
          have wh2 : wh < 2 := of_decide_eq_true g2
          refine ⟨_, rfl, big _ (by decide), fun t nt => ?_⟩
          have sm := @Same.new t _ (.tup [.str "a", .str "b", .str "c"]) nt
          refine ⟨w, t, _, c1, rfl, w1.same sm, by omega, SqT.of upd_same, by decide, by decide, fun i v c2 H2 hi k2 w2 e2 => ?_⟩
          obtain ⟨x, rfl, ovx⟩ : ∃ x, v = V.str x ∧ (["a", "b", "c"] : List Str).contains x = true := by
            match i, hi with
            | 0, hi => exact ⟨_, (Option.some.inj hi).symm, by decide⟩
            | 1, hi => exact ⟨_, (Option.some.inj hi).symm, by decide⟩
            | 2, hi => exact ⟨_, (Option.some.inj hi).symm, by decide⟩
          refine ⟨big _ (by show (2 : Nat) ≤ 1000; decide), fun p np => ?_⟩
          exact q _ (.var x) c2 _ (lay w2 np (.cons (.str _) (.cons (.str _) .nil))) (Nat.le_max_right _ _) (fun z => absurd z (by omega)) (fun _ => rfl) ovx (k1.trans ((Kw.same sm).trans (k2.trans (Kw.new np)))) (w2.same (Same.new np)) (by omega)
        · exact leaf fun _ _ => rfl
      · exact iteF (leaf fun _ _ => rfl)
    · have g4 : ¬ b < 4 := of_decide_eq_false (by simpa using g)
      have gn : 1 < (n : Int) ∧ b < 12 := b1.resolve_left g4
      obtain ⟨m, rfl⟩ : ∃ m, n = m + 1 := by
        cases n with
        | zero => exact absurd gn.1 (by decide)
        | succ m => exact ⟨m, rfl⟩
      have tm := Ck_ge m
      have tt : Ck (m + 1) = 2 * Ck m + 2 := rfl
      refine ⟨big _ (by decide), fun t nt => ?_⟩
      have sm := @Same.new t _ (.tup [.str "list", .str "list", .str "pair", .str "pair", .str "either", .str "either", .str "fun", .str "fun"]) nt
      obtain ⟨j, hj⟩ := Int.eq_ofNat_of_zero_le (show (0 : Int) ≤ b - 4 by omega)
      have j8 : j < 8 := by omega
      obtain ⟨wd, hwd, hw4⟩ : ∃ wd : Str, ([V.str "list", .str "list", .str "pair", .str "pair", .str "either", .str "either", .str "fun", .str "fun"])[j]? = some (.str wd) ∧ (wd = "list" ∨ wd = "pair" ∨ wd = "either" ∨ wd = "fun") := by
        match j, j8 with
        | 0, _ => exact ⟨_, rfl, .inl rfl⟩
        | 1, _ => exact ⟨_, rfl, .inl rfl⟩
        | 2, _ => exact ⟨_, rfl, .inr (.inl rfl)⟩
        | 3, _ => exact ⟨_, rfl, .inr (.inl rfl)⟩
        | 4, _ => exact ⟨_, rfl, .inr (.inr (.inl rfl))⟩
        | 5, _ => exact ⟨_, rfl, .inr (.inr (.inl rfl))⟩
        | 6, _ => exact ⟨_, rfl, .inr (.inr (.inr rfl))⟩
        | 7, _ => exact ⟨_, rfl, .inr (.inr (.inr rfl))⟩
      refine ⟨_, rfl, _, _, rfl, rfl, t, _, _, _, rfl, rfl, SqT.of upd_same, (by rw [hj]; exact atI_nat hwd), ?_⟩
      (refine ⟨_, rfl, _, rfl, _, _, rfl, rfl, _, rfl, ?_⟩)
      refine hR m rfl _ _ _ ⟨w, wh, c1, ?_, w1.same sm, by omega, fun v1 kd1 c2 H2 dv1 dp1 cl1 nf1 ov1 k2 w2 e2 => ?_⟩
      · show [V.ref w, V.int (((m + 1 : Nat) : Int) - 1), V.int wh] = _
        rw [show (((m + 1 : Nat) : Int) - 1) = (m : Int) by omega]
      have k02 := k1.trans ((Kw.same sm).trans k2)
      have m1 : 1 ≤ m := by omega
      have dp1' : kd1.dep ≤ m := Nat.le_trans dp1 (by omega)
      refine ⟨_, rfl, rfl, _, rfl, ite2 (fun gl => ?_) (fun gl => ?_)⟩
      · have el : wd = "list" := V.str.inj (of_decide_eq_true gl)
        subst el
        refine ⟨_, rfl, _, rfl, big _ (by show (2 : Nat) ≤ 1000; decide), fun p np => ?_⟩
        refine q _ (.lst kd1) c2 _ (lay w2 np (.cons (.str _) (.cons dv1 .nil))) ?_ (fun z => cl1 z) (fun z => nf1 z) ov1 (k02.trans (Kw.new np)) (w2.same (Same.new np)) (by omega)
        show kd1.dep + 1 ≤ max (m + 1) 1
        omega
      · have nl : wd ≠ "list" := fun z => of_decide_eq_false (p := V.str wd = V.str "list") (by simpa using gl) (congrArg V.str z)
        have two : ∀ (wd2 : Str) (kd : Kd → Kd → Kd), (∀ a b, (kd a b).d = .tuple [.str wd2, a.d, b.d]) → (∀ a b, (kd a b).dep = max a.dep b.dep + 1) → (∀ a b, a.closed = true → b.closed = true → (kd a b).closed = true) →
            (wh = 1 ∨ wh = 2 → ∀ a b, a.noFn = true → b.noFn = true → (kd a b).noFn = true) → (∀ a b, a.okv = true → b.okv = true → (kd a b).okv = true) → ∀ H3 : Hp, Kw w H2 H3 → Wl H3 w c2 →
            tTup (tCons (tVar 4) (tCons (tVar 5) (tCons (tCall spR [] E0 (tCons (tVar 0) (tCons (tOp (rI0 fun i j => V.int (i - j)) (tVar 1) (tC (V.int 1))) (tCons (tVar 2) tNil)))) tNil)))
              [some (.ref w), some (.int ((m + 1 : Nat) : Int)), some (.int wh), some (.int b), some (.str wd2), some v1] H3 Q := by
          intro wd2 kd hd hdep hcl hnf hov H3 k3 w3
          refine ⟨_, rfl, _, rfl, _, rfl, _, rfl, _, _, rfl, rfl, _, rfl, ?_⟩
          refine hR m rfl _ _ _ ⟨w, wh, c2, ?_, w3, by omega, fun v2 kd2 c4 H4 dv2 dp2 cl2 nf2 ov2 k4 w4 e4 => ?_⟩
          · show [V.ref w, V.int (((m + 1 : Nat) : Int) - 1), V.int wh] = _
            rw [show (((m + 1 : Nat) : Int) - 1) = (m : Int) by omega]
          refine ⟨big _ (by show (3 : Nat) ≤ 1000; decide), fun p np => ?_⟩
          have dp2' : kd2.dep ≤ m := Nat.le_trans dp2 (by omega)
          refine q _ (kd kd1 kd2) c4 _ (by rw [hd]; exact lay w4 np (.cons (.str _) (.cons ((dv1.kw k3).kw k4) (.cons dv2 .nil)))) ?_ (fun z => hcl _ _ (cl1 z) (cl2 z)) (fun z => hnf z _ _ (nf1 z) (nf2 z)) (hov _ _ ov1 ov2) (k02.trans (k3.trans (k4.trans (Kw.new np)))) (w4.same (Same.new np)) (by omega)
          rw [hdep]
          omega
        have pairK : ∀ H3 : Hp, Kw w H2 H3 → Wl H3 w c2 → _ := two "pair" .pair (fun _ _ => rfl) (fun _ _ => rfl) (fun _ _ x y => by simp only [Kd.closed, x, y]; rfl) (fun _ _ _ x y => by simp only [Kd.noFn, x, y]; rfl) (fun _ _ x y => by simp only [Kd.okv, x, y]; rfl)
        refine ⟨_, rfl, rfl, _, rfl, ite2 (fun gf => ?_) (fun gf => ?_)⟩
        · have ef : wd = "fun" := V.str.inj (of_decide_eq_true gf)
          subst ef
          refine ⟨_, rfl, big _ (by decide), fun t2 nt2 => ?_⟩
          have sm2 := @Same.new t2 _ (.tup [.int 1, .int 2]) nt2
          refine ⟨t2, _, rfl, .inr (SqT.of upd_same), rfl, rfl, _, rfl, ite2 (fun gi => ?_) (fun gi => ?_)⟩
          · exact pairK _ (Kw.same sm2) (w2.same sm2)
          · refine two "fun" .fn (fun _ _ => rfl) (fun _ _ => rfl) (fun _ _ x y => by simp only [Kd.closed, x, y]; rfl) (fun z => ?_) (fun _ _ x y => by simp only [Kd.okv, x, y]; rfl) _ (Kw.same sm2) (w2.same sm2)
            exfalso
            rcases z with z | z
            · subst z
              exact gi (by decide +kernel)
            · subst z
              exact gi (by decide +kernel)
        · have nf : wd ≠ "fun" := fun z => of_decide_eq_false (p := V.str wd = V.str "fun") (by simpa using gf) (congrArg V.str z)
          refine iteF ?_
          rcases hw4 with e | e | e | e
          · exact absurd e nl
          · subst e
            exact pairK _ (Kw.refl w H2) w2
          · subst e
            exact two "either" .eith (fun _ _ => rfl) (fun _ _ => rfl) (fun _ _ x y => by simp only [Kd.closed, x, y]; rfl) (fun _ _ _ x y => by simp only [Kd.noFn, x, y]; rfl) (fun _ _ x y => by simp only [Kd.okv, x, y]; rfl) _ (Kw.refl w H2) w2
          · exact absurd e nf
theorem ok_kd2 {f fD fP : Addr} {fd fdD fdP : FuncData} (F : FnP K "_law_kind" (top 31) f fd) (T : Bl K mg)
    (FD : FnP K "_law_draw" (top 27) fD fdD) (gD : mg "_law_draw" = some (.ref fD)) (bD : Binds K fdD ["_law_well_here", "_law_many"] [])
    (FP : FnP K "_law_pick" (top 28) fP fdP) (gP : mg "_law_pick" = some (.ref fP)) (bP : Binds K fdP ["_law_well_here", "_law_some"] [])
    (gR : mg "_law_kind" = some (.ref f)) (bR : Binds K fd ["_law_well_here", "_law_deep", "_law_which"] []) : ∀ n : Nat, FnOk P w K mg base CX0 (3 + n + 1) f fd ["_law_well_here", "_law_deep", "_law_which"] (spKd2 n)
  | 0 => kd2_body 0 (spR := fun _ _ _ _ => False) F T FD gD bD FP gP bP gR bR ⟨fun _ _ _ _ h => h.elim, fun _ _ _ _ _ _ _ _ _ _ _ _ _ h => h.elim⟩ fun m e => by cases e
  | n + 1 => kd2_body (n + 1) F T FD gD bD FP gP bP gR bR (ok_kd2 F T FD gD bD FP gP bP gR bR n) fun m e => by cases e; exact fun _ _ _ h => h
end
end J2
namespace KB
open PySem L2 PySem.Spec PyProof.Rows
theorem abc_mem {x : Str} (h : (["a", "b", "c"] : List Str).contains x = true) : x = "a" ∨ x = "b" ∨ x = "c" := by
  have m : x ∈ (["a", "b", "c"] : List Str) := by simpa using h
  rcases List.mem_cons.mp m with e | m
  · exact .inl e
  · rcases List.mem_cons.mp m with e | m
    · exact .inr (.inl e)
    · exact .inr (.inr (List.mem_singleton.mp m))
theorem kd_show : ∀ k : Kd, k.okv = true → k.d.showable = true
  | .num, _ => by simp [Kd.d, PyData.showable, PyData.showableAll]
  | .unit, _ => by simp [Kd.d, PyData.showable, PyData.showableAll]
  | .var x, h => by simp [Kd.d, PyData.showable, PyData.showableAll]
  | .lst a, h => by simp [Kd.d, PyData.showable, PyData.showableAll, kd_show a h]
  | .pair a b, h => by
    obtain ⟨h1, h2⟩ := Bool.and_eq_true_iff.mp (show (a.okv && b.okv) = true from h)
    simp [Kd.d, PyData.showable, PyData.showableAll, kd_show a h1, kd_show b h2]
  | .eith a b, h => by
    obtain ⟨h1, h2⟩ := Bool.and_eq_true_iff.mp (show (a.okv && b.okv) = true from h)
    simp [Kd.d, PyData.showable, PyData.showableAll, kd_show a h1, kd_show b h2]
  | .fn a b, h => by
    obtain ⟨h1, h2⟩ := Bool.and_eq_true_iff.mp (show (a.okv && b.okv) = true from h)
    simp [Kd.d, PyData.showable, PyData.showableAll, kd_show a h1, kd_show b h2]
def kwords : List Str := ["num", "unit", "var", "list", "pair", "either", "fun", "a", "b", "c"]
theorem kw_long : (kwords.all fun x => decide (sz (.str x) ≤ 8)) = true := by decide +kernel
theorem kw_sz {x : Str} (h : x ∈ kwords) : sz (.str x) ≤ 8 := of_decide_eq_true (List.all_eq_true.mp kw_long x h)
theorem sz_kz : ∀ k : Kd, k.okv = true → sz k.d ≤ 25 * k.kz
  | .num, _ => by have := kw_sz (x := "num") (by decide); simp only [Kd.d, Kd.kz, sz_tup, szA]; omega
  | .unit, _ => by have := kw_sz (x := "unit") (by decide); simp only [Kd.d, Kd.kz, sz_tup, szA]; omega
  | .var x, h => by
    have h1 := kw_sz (x := "var") (by decide)
    have h2 : sz (.str x) ≤ 8 := by
      rcases abc_mem h with e | e | e
      · rw [e]; exact kw_sz (by decide)
      · rw [e]; exact kw_sz (by decide)
      · rw [e]; exact kw_sz (by decide)
    simp only [Kd.d, Kd.kz, sz_tup, szA]; omega
  | .lst a, h => by
    have h1 := kw_sz (x := "list") (by decide)
    have h2 := sz_kz a h
    simp only [Kd.d, Kd.kz, sz_tup, szA]; omega
  | .pair a b, h => by
    obtain ⟨o1, o2⟩ := Bool.and_eq_true_iff.mp (show (a.okv && b.okv) = true from h)
    have h1 := kw_sz (x := "pair") (by decide)
    have h2 := sz_kz a o1
    have h3 := sz_kz b o2
    simp only [Kd.d, Kd.kz, sz_tup, szA]; omega
  | .eith a b, h => by
    obtain ⟨o1, o2⟩ := Bool.and_eq_true_iff.mp (show (a.okv && b.okv) = true from h)
    have h1 := kw_sz (x := "either") (by decide)
    have h2 := sz_kz a o1
    have h3 := sz_kz b o2
    simp only [Kd.d, Kd.kz, sz_tup, szA]; omega
  | .fn a b, h => by
    obtain ⟨o1, o2⟩ := Bool.and_eq_true_iff.mp (show (a.okv && b.okv) = true from h)
    have h1 := kw_sz (x := "fun") (by decide)
    have h2 := sz_kz a o1
    have h3 := sz_kz b o2
    simp only [Kd.d, Kd.kz, sz_tup, szA]; omega
theorem ib_str {B : Nat} (x : Str) : IB B (.str x) := by rw [IB]; exact True.intro
theorem ib_kd {B : Nat} : ∀ k : Kd, IB B k.d
  | .num => ib_tup.mpr fun x h => by rw [List.mem_singleton.mp h]; exact ib_str _
  | .unit => ib_tup.mpr fun x h => by rw [List.mem_singleton.mp h]; exact ib_str _
  | .var y => ib_tup.mpr fun x h => by
    rcases List.mem_cons.mp h with h | h
    · rw [h]; exact ib_str _
    · rw [List.mem_singleton.mp h]; exact ib_str _
  | .lst a => ib_tup.mpr fun x h => by
    rcases List.mem_cons.mp h with h | h
    · rw [h]; exact ib_str _
    · rw [List.mem_singleton.mp h]; exact ib_kd a
  | .pair a b => ib_tup.mpr fun x h => by
    rcases List.mem_cons.mp h with h | h
    · rw [h]; exact ib_str _
    · rcases List.mem_cons.mp h with h | h
      · rw [h]; exact ib_kd a
      · rw [List.mem_singleton.mp h]; exact ib_kd b
  | .eith a b => ib_tup.mpr fun x h => by
    rcases List.mem_cons.mp h with h | h
    · rw [h]; exact ib_str _
    · rcases List.mem_cons.mp h with h | h
      · rw [h]; exact ib_kd a
      · rw [List.mem_singleton.mp h]; exact ib_kd b
  | .fn a b => ib_tup.mpr fun x h => by
    rcases List.mem_cons.mp h with h | h
    · rw [h]; exact ib_str _
    · rcases List.mem_cons.mp h with h | h
      · rw [h]; exact ib_kd a
      · rw [List.mem_singleton.mp h]; exact ib_kd b
def Kd.mk2 (wd : Str) (a b : Kd) : Kd := if wd = "pair" then .pair a b else if wd = "either" then .eith a b else .fn a b
theorem mk2_d {wd : Str} (h : wd = "pair" ∨ wd = "either" ∨ wd = "fun") (a b : Kd) : (Kd.mk2 wd a b).d = .tuple [.str wd, a.d, b.d] ∧ (Kd.mk2 wd a b).dep = max a.dep b.dep + 1 ∧ (Kd.mk2 wd a b).kz = a.kz + b.kz + 1 ∧ (Kd.mk2 wd a b).okv = (a.okv && b.okv) := by
  rcases h with rfl | rfl | rfl
  · rw [Kd.mk2, if_pos rfl]; exact ⟨rfl, rfl, rfl, rfl⟩
  · rw [Kd.mk2, if_neg (by decide), if_pos rfl]; exact ⟨rfl, rfl, rfl, rfl⟩
  · rw [Kd.mk2, if_neg (by decide), if_neg (by decide)]; exact ⟨rfl, rfl, rfl, rfl⟩
structure Kg (D Z : Nat) (k : Kd) : Prop where
  ov : k.okv = true
  dp : k.dep ≤ D
  kz : k.kz ≤ Z
theorem Kg.mono {D Z D' Z' : Nat} {k : Kd} (h : Kg D Z k) (a : D ≤ D') (b : Z ≤ Z') : Kg D' Z' k := ⟨h.ov, Nat.le_trans h.dp a, Nat.le_trans h.kz b⟩
theorem Kg.sd {D Z : Nat} {k : Kd} (h : Kg D Z k) : Sd D (25 * Z) k.d := ⟨kd_show k h.ov, by rw [Kd.depth]; exact h.dp, Nat.le_trans (sz_kz k h.ov) (Nat.mul_le_mul_left _ h.kz)⟩
theorem Kg.of_dep {D : Nat} {k : Kd} (ov : k.okv = true) (h : k.dep ≤ D) : Kg D (2 ^ D) k := ⟨ov, h, by have := Kd.kz_dep k; have := Nat.pow_le_pow_right (n := 2) (by decide) h; omega⟩
end KB
namespace KB
open PySem L2 PySem.Spec PyProof.Rows
def spTow2 : Sp := fun vs H Q _ => ∃ (w : Addr) (c : Int), vs = [.ref w] ∧ Wl H w c ∧ c + 40 < 2 ^ 60 ∧
  ∀ (v : V) (k : Kd) (c' : Int) (H' : Hp), Dt (Nw w) H' v k.d → Kg 131 400 k → Kw w H H' → Wl H' w c' → c' ≤ c + 40 → Q v H'
def spBp : Sp := fun vs H Q _ => ∃ (w : Addr) (v : V) (k : Kd) (c : Int) (D Z : Nat), vs = [.ref w, v] ∧ Dt (Nw w) H v k.d ∧ Kg D Z k ∧ 3 ≤ D ∧ Wl H w c ∧ c + 40 < 2 ^ 60 ∧
  ∀ (v' : V) (k' : Kd) (c' : Int) (H' : Hp), Dt (Nw w) H' v' k'.d → Kg D (Z + 4) k' → Kw w H H' → Wl H' w c' → c' ≤ c + 20 → Q v' H'
def spWide : Sp := fun vs H Q _ => ∃ (w : Addr) (c : Int), vs = [.ref w] ∧ Wl H w c ∧ c + 400 < 2 ^ 60 ∧
  ∀ (v : V) (k : Kd) (c' : Int) (H' : Hp), Dt (Nw w) H' v k.d → Kg 131 400 k → Kw w H H' → Wl H' w c' → c' ≤ c + 200 → Q v H'
def tws : List (List Str) := [["list"], ["pair", "list"], ["fun", "either", "list"], ["either", "pair"]]
theorem tws_ok : ∀ ws ∈ tws, 0 < ws.length ∧ ws.length ≤ 3 ∧ ∀ x ∈ ws, x = "list" ∨ x = "pair" ∨ x = "either" ∨ x = "fun" := by decide
theorem slT {K : PySem.W.Frag} {F : Addr → Prop} {σ : L2.St} {H : Hp} {u : Nat} {vv : V} {ds : List PyData} {Q : VK} (i : Nat) (hF : ∀ p, H p = none → F p) (su : σ[u]? = some (some vv)) (hv : Dt F H vv (.tuple ds)) (hi : i ≤ ds.length) (q : ∀ v H', Same H H' → Dt F H' v (.tuple (ds.take i)) → Q v H') :
    tSl (rSlA K) (tVar u) tNoPart (tPart (tC (V.int (i : Int)))) σ H Q := ⟨_, su, _, rfl, takeD hF hv hi q⟩
theorem kd_len (k : Kd) : ∃ ds, k.d = .tuple ds ∧ ds.length ≤ 3 ∧ (ds.length = 3 → ∃ (wd : Str) (a b : Kd), (wd = "pair" ∨ wd = "either" ∨ wd = "fun") ∧ k = Kd.mk2 wd a b) := by
  cases k with
  | num => exact ⟨_, rfl, by decide, fun h => by cases h⟩
  | unit => exact ⟨_, rfl, by decide, fun h => by cases h⟩
  | var x => exact ⟨_, rfl, by simp, fun h => by simp at h⟩
  | lst a => exact ⟨_, rfl, by simp, fun h => by simp at h⟩
  | pair a b => exact ⟨_, rfl, by simp, fun _ => ⟨"pair", a, b, .inl rfl, rfl⟩⟩
  | eith a b => exact ⟨_, rfl, by simp, fun _ => ⟨"either", a, b, .inr (.inl rfl), by rw [Kd.mk2, if_neg (by decide), if_pos rfl]⟩⟩
  | fn a b => exact ⟨_, rfl, by simp, fun _ => ⟨"fun", a, b, .inr (.inr rfl), by rw [Kd.mk2, if_neg (by decide), if_neg (by decide)]⟩⟩
theorem ck1 : Ck 1 = 6 := by decide
theorem ck2 : Ck 2 = 14 := by decide
end KB
namespace J2
open PySem PySem.Spec PyProof.Rows L2 KB
section
variable {K : PySem.W.Frag} {mg : Str → Option Value} {base : Heap} {P : Program} {w : World}
abbrev nTow : List Str := ["_law_well_here", "_law_kind_here", "_law_words", "_law_part", "_law_turn", "_law_word"]
theorem scTow : FnScope nTow ["_law_well_here"] (defScope (top 41)) := ⟨rfl, rfl, rfl, by decide +kernel, rfl, by decide +kernel, by decide +kernel⟩
theorem ok_tow {f : Addr} {fd : FuncData} (F : FnP K "_law_tower" (top 41) f fd) (T : Bl K mg) (hK : Has P w K mg base "_law_kind" ["_law_well_here", "_law_deep", "_law_which"] 10 (fun vs H Q E => ∃ n, n ≤ 6 ∧ spKd2 n vs H Q E))
    (hP : Has P w K mg base "_law_pick" ["_law_well_here", "_law_some"] 2 (spPick K)) : FnOk P w K mg base CX0 11 f fd ["_law_well_here"] spTow2 := by
  obtain ⟨fK, fdK, kK, gK, bK, GK⟩ := hK
  obtain ⟨fP, fdP, kP, gP, bP, GP⟩ := hP
  refine F.ok scTow (fun vs H Q E h => ?_) (fun cdv A outer s H vs Q E hr h => ?_)
  · obtain ⟨w, c, rfl, _⟩ := h
    rfl
  · obtain ⟨w, c, rfl, hw, hc, q⟩ := h
    have sc := scTow
    have hrK : Room 10 _ := hr
    have hrP : Room 2 _ := hr.mono (by omega)
    refine ⟨_, PSs.nox (pss_cons (ps_set (i := 1) sc.nd rfl (Or.inl rfl) (pe_call GK hrK rfl gK kK bK .nil pass0 (pa_cons (pv 0) (pa_cons pe_int (pa_cons pe_int pa_nil))))) (pss_cons (ps_set (i := 2) sc.nd rfl (Or.inl rfl) (pe_call GP hrP rfl gP kP bP .nil pass0 (pa_cons (pv 0) (pa_cons (pe_tup (pa_cons (pe_tup (pa_cons pe_str pa_nil)) (pa_cons (pe_tup (pa_cons pe_str (pa_cons pe_str pa_nil))) (pa_cons (pe_tup (pa_cons pe_str (pa_cons pe_str (pa_cons pe_str pa_nil)))) (pa_cons (pe_tup (pa_cons pe_str (pa_cons pe_str pa_nil))) pa_nil))))) pa_nil)))) (pss_cons (ps_set (i := 3) sc.nd rfl (Or.inl rfl) (pe_call GK hrK rfl gK kK bK .nil pass0 (pa_cons (pv 0) (pa_cons pe_int (pa_cons pe_int pa_nil))))) (pss_cons (ps_for PassesOwn.never rfl (pi_range1 rfl T.range (pa_cons (pe_call GP hrP rfl gP kP bP .nil pass0 (pa_cons (pv 0) (pa_cons (pe_tup (pa_cons pe_int (pa_cons pe_int (pa_cons pe_int (pa_cons pe_int (pa_cons pe_int pa_nil)))))) pa_nil))) pa_nil)) (pg_name (i := 4) sc.nd rfl (Or.inl rfl)) (pss_cons (ps_set (i := 5) sc.nd rfl (Or.inl rfl) (pe_ix ix_tup (pv 2) (pe_op op_mod (pe_callTy call_int1 (by rfl) T.int (by decide +kernel) (pa_cons (pv 4) pa_nil)) (pe_callB call_len (by rfl) T.len (by decide +kernel) (pa_cons (pv 2) pa_nil))) (fun _ _ => rfl))) (pss_one (ps_if (pt_cmpR op_eq (pv 5) pe_str (nomark _)) (pss_one (ps_set (i := 1) sc.nd rfl (Or.inl rfl) (pe_tup (pa_cons (pv 5) (pa_cons (pv 1) pa_nil))))) (pss_one (ps_set (i := 1) sc.nd rfl (Or.inl rfl) (pe_ifExp (pt_cmpR op_gt (pe_op op_mod (pe_callTy call_int1 (by rfl) T.int (by decide +kernel) (pa_cons (pv 4) pa_nil)) pe_int) pe_int (nomark _)) (pe_tup (pa_cons (pv 5) (pa_cons (pv 1) (pa_cons (pv 3) pa_nil)))) (pe_tup (pa_cons (pv 5) (pa_cons (pv 3) (pa_cons (pv 1) pa_nil))))))))))) (pss_one (ps_ret (pv 1))))))), ?_⟩
    have big : ∀ k : Nat, k ≤ 1000 → k ≤ sizeLine := fun k h => Nat.le_of_lt (small1000 h)
    have c1e := ck1
    refine ⟨_, rfl, 1, by decide, w, 0, c, rfl, hw, by rw [c1e]; omega, fun v1 k1 c1 H1 d1 p1 _ _ o1 kw1 w1 l1 => ?_⟩
    rw [c1e] at l1
    have hF1 := nwF w1
    refine ⟨_, rfl, (le_tup hF1 (la_cons (le_tup hF1 (la_cons (le_str _) la_nil) (by decide)) (la_cons (le_tup hF1 (la_cons (le_str _) (la_cons (le_str _) la_nil)) (by decide)) (la_cons (le_tup hF1 (la_cons (le_str _) (la_cons (le_str _) (la_cons (le_str _) la_nil))) (by decide)) (la_cons (le_tup hF1 (la_cons (le_str _) (la_cons (le_str _) la_nil)) (by decide)) la_nil)))) (by decide)) _ (Same.refl _) _ fun tv H2 s2 dt => ?_⟩
    have dt' : Dt (Nw w) H2 tv (.tuple (tws.map fun ws => .tuple (ws.map .str))) := dt
    obtain ⟨ta, txs, rfl, ft, ht, rt⟩ := dt'.tupI
    have lt := rt.length
    rw [List.length_map] at lt
    have lt4 : txs.length = 4 := lt
    have w2 := w1.same s2
    refine ⟨w, ta, txs, c1, rfl, w2, by omega, SqT.of ht, by omega, by omega, fun m wv c3 H3 hm k3 w3 l3 => ?_⟩
    obtain ⟨dd, hdd, dw⟩ := rt.get hm
    obtain ⟨ws, hws, rfl⟩ : ∃ ws, ws ∈ tws ∧ PyData.tuple (ws.map .str) = dd := by
      rw [List.getElem?_map] at hdd
      cases e : tws[m]? with
      | none => rw [e] at hdd; cases hdd
      | some ws => rw [e] at hdd; exact ⟨ws, List.mem_of_getElem? e, Option.some.inj hdd⟩
    obtain ⟨ws0, ws3, wsw⟩ := tws_ok ws hws
    have dw3 : Dt (Nw w) H3 wv (.tuple (ws.map .str)) := Dt.kw dw k3
    have d3 := (d1.keep s2).kw k3
    refine ⟨_, rfl, 1, by decide, w, 0, c3, rfl, w3, by rw [c1e]; omega, fun v4 k4 c4 H4 d4 p4 _ _ o4 kw4 w4 l4 => ?_⟩
    rw [c1e] at l4
    refine ⟨_, rfl, big _ (by show (5 : Nat) ≤ 1000; decide), fun t nt => ?_⟩
    have s5 := @Same.new t _ (.tup [.int 30, .int 98, .int 99, .int 100, .int 130]) nt
    refine ⟨w, t, _, c4, rfl, w4.same s5, by omega, SqT.of upd_same, by decide, by decide, fun m2 v c6 H6 hm2 k6 w6 l6 => ?_⟩
    obtain ⟨n, rfl, hn⟩ : ∃ n : Nat, v = V.int (n : Int) ∧ n ≤ 130 := by
      match m2, hm2 with
      | 0, hm => exact ⟨30, (Option.some.inj hm).symm, by decide⟩
      | 1, hm => exact ⟨98, (Option.some.inj hm).symm, by decide⟩
      | 2, hm => exact ⟨99, (Option.some.inj hm).symm, by decide⟩
      | 3, hm => exact ⟨100, (Option.some.inj hm).symm, by decide⟩
      | 4, hm => exact ⟨130, (Option.some.inj hm).symm, by decide⟩
    have k36 := kw4.trans ((Kw.same s5).trans k6)
    have k06 : Kw w H H6 := kw1.trans ((Kw.same s2).trans (k3.trans k36))
    have dw6 := dw3.kw k36
    have d6 := d3.kw k36
    have p6 := (d4.keep s5).kw k6
    have kz1 := Kd.kz_dep k1
    have kz4 := Kd.kz_dep k4
    have p1' : k1.dep ≤ 1 := p1
    have p4' : k4.dep ≤ 1 := p4
    have z1 : k1.kz ≤ 1 := by have := Nat.pow_le_pow_right (n := 2) (by decide) p1'; omega
    have z4 : k4.kz ≤ 1 := by have := Nat.pow_le_pow_right (n := 2) (by decide) p4'; omega
    refine ⟨_, rfl, by omega, by omega, for_range (lo := 0) (n := (n : Int).toNat) (fun i σ H5 => ∃ (u4 u5 : Option V) (kv : V) (k : Kd), σ = [some (.ref w), some kv, some wv, some v4, u4, u5] ∧ Dt (Nw w) H5 kv k.d ∧ Kg (i + 1) (2 * i + 1) k ∧ Same H6 H5)
      ⟨none, none, v1, k1, rfl, d6, ⟨o1, by omega, by omega⟩, Same.refl H6⟩ ?_ ?_⟩
    · rintro x σ H7 hx ⟨u4, u5, kv, k, rfl, dk, kg, s7⟩
      have dw7 := dw6.keep s7
      have p7 := p6.keep s7
      have w7 := w6.same s7
      obtain ⟨wa, wxs, rfl, fw, hwa, rw7⟩ := id dw7.tupI
      have lw := rw7.length
      rw [List.length_map] at lw
      refine ⟨_, rfl, _, rfl, .inl ⟨_, rfl, _, rfl, _, _, rfl, .inr ⟨_, SqT.of hwa, rfl⟩, _, _, rfl, rfl, (by show (0 : Int) < _; omega), ?_⟩⟩
      have e0 : (0 : Int) ≤ (0 + (x : Int)) % (wxs.length : Int) := Int.emod_nonneg _ (by omega)
      have e1 : (0 + (x : Int)) % (wxs.length : Int) < (wxs.length : Int) := Int.emod_lt_of_pos _ (by omega)
      obtain ⟨j, hj⟩ := Int.eq_ofNat_of_zero_le e0
      have jl : j < wxs.length := by omega
      obtain ⟨xv, hxv⟩ : ∃ xv, wxs[j]? = some xv := ⟨_, List.getElem?_eq_getElem jl⟩
      obtain ⟨xd, hxd, dxv⟩ := rw7.get hxv
      obtain ⟨wd, hwd, rfl⟩ : ∃ wd, wd ∈ ws ∧ PyData.str wd = xd := by
        rw [List.getElem?_map] at hxd
        cases e : ws[j]? with
        | none => rw [e] at hxd; cases hxd
        | some y => rw [e] at hxd; exact ⟨y, List.mem_of_getElem? e, Option.some.inj hxd⟩
      have exv := dxv.strI
      subst exv
      refine ⟨wa, wxs, _, _, rfl, rfl, SqT.of hwa, (by rw [hj]; exact atI_nat hxv), ?_⟩
      have hF := nwF w7
      have four := wsw wd hwd
      have two : (wd = "pair" ∨ wd = "either" ∨ wd = "fun") → ∀ a b : Kd, Kg (x + 1) (2 * x + 1) a ∧ Kg (x + 1) (2 * x + 1) b ∧ (a.kz ≤ 1 ∨ b.kz ≤ 1) → Kg (x + 1 + 1) (2 * (x + 1) + 1) (Kd.mk2 wd a b) := fun h a b ⟨ga, gb, z⟩ => by
        obtain ⟨_, e2, e3, e4⟩ := mk2_d h a b
        have := ga.dp; have := gb.dp; have := ga.kz; have := gb.kz
        refine ⟨by rw [e4, ga.ov, gb.ov]; rfl, by rw [e2]; omega, by rw [e3]; omega⟩
      have kg4 : Kg (x + 1) (2 * x + 1) k4 := ⟨o4, by omega, by omega⟩
      refine ⟨_, rfl, rfl, _, rfl, ite2 (fun g => ?_) (fun g => ?_)⟩
      · have el : wd = "list" := V.str.inj (of_decide_eq_true g)
        subst el
        refine (le_tup hF (la_cons (le_var (i := 5) rfl (.str "list")) (la_cons (le_var (i := 1) rfl dk) la_nil)) (by simp)) _ (Same.refl _) _ fun v8 H8 s8 d8 => ?_
        exact ⟨_, _, v8, .lst k, rfl, d8, ⟨kg.ov, by have := kg.dp; show k.dep + 1 ≤ _; omega, by have := kg.kz; show k.kz + 1 ≤ _; omega⟩, s7.trans s8⟩
      · have nl : wd ≠ "list" := fun z => of_decide_eq_false (p := V.str wd = V.str "list") (by simpa using g) (congrArg V.str z)
        have three : wd = "pair" ∨ wd = "either" ∨ wd = "fun" := four.resolve_left nl
        refine ⟨_, rfl, .inl ⟨_, rfl, _, _, rfl, rfl, (by show (0 : Int) < 3; decide), _, _, rfl, rfl, _, rfl, ite2 (fun g2 => ?_) (fun g2 => ?_)⟩⟩
        · refine (le_tup hF (la_cons (le_var (i := 5) rfl (.str wd)) (la_cons (le_var (i := 1) rfl dk) (la_cons (le_var (i := 3) rfl p7) la_nil))) (by simp)) _ (Same.refl _) _ fun v8 H8 s8 d8 => ?_
          exact ⟨_, _, v8, Kd.mk2 wd k k4, rfl, by rw [(mk2_d three k k4).1]; exact d8, two three k k4 ⟨kg, kg4, .inr z4⟩, s7.trans s8⟩
        · refine (le_tup hF (la_cons (le_var (i := 5) rfl (.str wd)) (la_cons (le_var (i := 3) rfl p7) (la_cons (le_var (i := 1) rfl dk) la_nil))) (by simp)) _ (Same.refl _) _ fun v8 H8 s8 d8 => ?_
          exact ⟨_, _, v8, Kd.mk2 wd k4 k, rfl, by rw [(mk2_d three k4 k).1]; exact d8, two three k4 k ⟨kg4, kg, .inl z4⟩, s7.trans s8⟩
    · rintro σ H7 ⟨u4, u5, kv, k, rfl, dk, kg, s7⟩
      exact ⟨_, rfl, q kv k c6 H7 dk (kg.mono (by omega) (by omega)) (k06.trans (Kw.same s7)) (w6.same s7) (by omega)⟩
abbrev nBp : List Str := ["_law_well_here", "_law_kind_here"]
theorem scBp : FnScope nBp ["_law_well_here", "_law_kind_here"] (defScope (top 43)) := ⟨rfl, rfl, rfl, by decide +kernel, rfl, by decide +kernel, by decide +kernel⟩
theorem ok_bp {f : Addr} {fd : FuncData} (F : FnP K "_law_bent_part" (top 43) f fd) (T : Bl K mg) (hK : Has P w K mg base "_law_kind" ["_law_well_here", "_law_deep", "_law_which"] 10 (fun vs H Q E => ∃ n, n ≤ 6 ∧ spKd2 n vs H Q E))
    (hD : Has P w K mg base "_law_draw" ["_law_well_here", "_law_many"] 1 spDraw) : FnOk P w K mg base CX0 11 f fd ["_law_well_here", "_law_kind_here"] spBp := by
  obtain ⟨fK, fdK, kK, gK, bK, GK⟩ := hK
  obtain ⟨fD, fdD, kD, gD, bD, GD⟩ := hD
  refine F.ok scBp (fun vs H Q E h => ?_) (fun cdv A outer s H vs Q E hr h => ?_)
  · obtain ⟨w, v, k, c, D, Z, rfl, _⟩ := h
    rfl
  · obtain ⟨w, v, k, c, D, Z, rfl, hk, kg, hD3, hw, hc, q⟩ := h
    have sc := scBp
    have hrK : Room 10 _ := hr
    have hrD : Room 1 _ := hr.mono (by omega)
    refine ⟨_, PSs.nox (pss_cons (ps_if (PW.pt (pw_or (pt_cmpR op_lt (pe_callB call_len (by rfl) T.len (by decide +kernel) (pa_cons (pv 1) pa_nil)) pe_int (nomark _)) (pw_or1 (pt_cmpR op_eq (pe_call GD hrD rfl gD kD bD .nil pass0 (pa_cons (pv 0) (pa_cons pe_int pa_nil))) pe_int (nomark _))))) (pss_one (ps_ret (pv 1))) pss_nil) (pss_one (ps_ret (pe_op op_catA (pe_slice sl_tupA (pv 1) po_none (po_some pe_int)) (pe_tup (pa_cons (pe_call GK hrK rfl gK kK bK .nil pass0 (pa_cons (pv 0) (pa_cons pe_int (pa_cons pe_int pa_nil)))) pa_nil)))))), ?_⟩
    have big : ∀ k : Nat, k ≤ 1000 → k ≤ sizeLine := fun k h => Nat.le_of_lt (small1000 h)
    have c2e := ck2
    obtain ⟨ds, ed, l3, three⟩ := kd_len k
    have hk' := hk
    rw [ed] at hk'
    obtain ⟨a, xs, rfl, ha, lx⟩ := lenD hk'
    refine ⟨_, rfl, _, _, rfl, .inr ⟨_, ha, rfl⟩, _, _, rfl, rfl, _, rfl, ite2 (fun g => ?_) (fun g => ?_)⟩
    · exact ⟨_, rfl, q _ k c H hk (kg.mono (Nat.le_refl _) (by omega)) (Kw.refl w H) hw (by omega)⟩
    · have g' : ¬ ((xs.length : Int) < 3) := of_decide_eq_false (by simpa using g)
      obtain ⟨wd, k1, k2, hwd, rfl⟩ := three (by omega)
      obtain ⟨e1, e2, e3, e4⟩ := mk2_d hwd k1 k2
      refine ⟨_, rfl, w, 2, c, rfl, hw, by omega, by decide, by decide, fun r c1 H1 r0 r1 kw1 w1 l1 => ⟨rfl, _, rfl, ite2 (fun g2 => ?_) (fun g2 => ?_)⟩⟩
      · exact ⟨_, rfl, q _ _ c1 H1 (hk.kw kw1) (kg.mono (Nat.le_refl _) (by omega)) kw1 w1 (by omega)⟩
      · have hk1 := hk.kw kw1
        rw [e1] at hk1
        refine slT (K := K) 2 (nwF w1) rfl hk1 (by simp) fun v2 H2 s2 d2 => ?_
        have w2 := w1.same s2
        refine ⟨_, rfl, 2, by decide, w, 0, c1, rfl, w2, by rw [c2e]; omega, fun v3 k3 c3 H3 d3 p3 _ _ o3 kw3 w3 l3 => ⟨big _ (by show (1 : Nat) ≤ 1000; decide), fun p np => ?_⟩⟩
        rw [c2e] at l3
        have s4 := @Same.new p _ (.tup [v3]) np
        have w4 := w3.same s4
        have d4 : Dt (Nw w) (upd H3 p (.tup [v3])) (.ref p) (.tuple [k3.d]) := layD (nwF w3) np (.cons d3 .nil)
        refine catD (K := K) (nwF w4) ((d2.kw kw3).keep s4) d4 (by simp) fun v5 H5 s5 d5 => ?_
        obtain ⟨f1, f2, f3, f4⟩ := mk2_d hwd k1 k3
        have z3 := Kd.kz_dep k3
        have p3' : k3.dep ≤ 2 := p3
        have z3' := Nat.pow_le_pow_right (n := 2) (by decide) p3'
        have o12 : k1.okv = true ∧ k2.okv = true := by
          have := kg.ov
          rw [e4] at this
          exact Bool.and_eq_true_iff.mp this
        have gd := kg.dp
        have gz := kg.kz
        refine q v5 (Kd.mk2 wd k1 k3) c3 H5 (by rw [f1]; exact d5) ⟨by rw [f4, o12.1, o3]; rfl, by rw [f2]; omega, by rw [f3]; omega⟩ (kw1.trans ((Kw.same s2).trans (kw3.trans (Kw.same (s4.trans s5))))) (w4.same s5) (by omega)
abbrev nWide : List Str := ["_law_well_here", "_law_kind_here", "_law_turn", "_law_word"]
theorem scWide : FnScope nWide ["_law_well_here"] (defScope (top 42)) := ⟨rfl, rfl, rfl, by decide +kernel, rfl, by decide +kernel, by decide +kernel⟩
theorem ok_wide {f : Addr} {fd : FuncData} (F : FnP K "_law_wide" (top 42) f fd) (T : Bl K mg) (hK : Has P w K mg base "_law_kind" ["_law_well_here", "_law_deep", "_law_which"] 10 (fun vs H Q E => ∃ n, n ≤ 6 ∧ spKd2 n vs H Q E))
    (hP : Has P w K mg base "_law_pick" ["_law_well_here", "_law_some"] 2 (spPick K)) (hB : Has P w K mg base "_law_bent_part" ["_law_well_here", "_law_kind_here"] 11 spBp) : FnOk P w K mg base CX0 12 f fd ["_law_well_here"] spWide := by
  obtain ⟨fK, fdK, kK, gK, bK, GK⟩ := hK
  obtain ⟨fP, fdP, kP, gP, bP, GP⟩ := hP
  obtain ⟨fB, fdB, kB, gB, bB, GB⟩ := hB
  refine F.ok scWide (fun vs H Q E h => ?_) (fun cdv A outer s H vs Q E hr h => ?_)
  · obtain ⟨w, c, rfl, _⟩ := h
    rfl
  · obtain ⟨w, c, rfl, hw, hc, q⟩ := h
    have sc := scWide
    have hrK : Room 10 _ := hr.mono (by omega)
    have hrP : Room 2 _ := hr.mono (by omega)
    have hrB : Room 11 _ := hr
    refine ⟨_, PSs.nox (pss_cons (ps_set (i := 1) sc.nd rfl (Or.inl rfl) (pe_call GK hrK rfl gK kK bK .nil pass0 (pa_cons (pv 0) (pa_cons pe_int (pa_cons pe_int pa_nil))))) (pss_cons (ps_for PassesOwn.never rfl (pi_range1 rfl T.range (pa_cons (pe_call GP hrP rfl gP kP bP .nil pass0 (pa_cons (pv 0) (pa_cons (pe_tup (pa_cons pe_int (pa_cons pe_int (pa_cons pe_int pa_nil)))) pa_nil))) pa_nil)) (pg_name (i := 2) sc.nd rfl (Or.inl rfl)) (pss_cons (ps_set (i := 3) sc.nd rfl (Or.inl rfl) (pe_call GP hrP rfl gP kP bP .nil pass0 (pa_cons (pv 0) (pa_cons (pe_tup (pa_cons pe_str (pa_cons pe_str (pa_cons pe_str (pa_cons pe_str pa_nil))))) pa_nil)))) (pss_one (ps_set (i := 1) sc.nd rfl (Or.inl rfl) (pe_tup (pa_cons (pv 3) (pa_cons (pv 1) (pa_cons (pe_call GB hrB rfl gB kB bB .nil pass0 (pa_cons (pv 0) (pa_cons (pv 1) pa_nil))) pa_nil)))))))) (pss_one (ps_ret (pv 1))))), ?_⟩
    have big : ∀ k : Nat, k ≤ 1000 → k ≤ sizeLine := fun k h => Nat.le_of_lt (small1000 h)
    have c2e := ck2
    refine ⟨_, rfl, 2, by decide, w, 0, c, rfl, hw, by rw [c2e]; omega, fun v1 k1 c1 H1 d1 p1 _ _ o1 kw1 w1 l1 => ?_⟩
    rw [c2e] at l1
    refine ⟨_, rfl, big _ (by show (3 : Nat) ≤ 1000; decide), fun t nt => ?_⟩
    have s2 := @Same.new t _ (.tup [.int 3, .int 4, .int 5]) nt
    refine ⟨w, t, _, c1, rfl, w1.same s2, by omega, SqT.of upd_same, by decide, by decide, fun m2 v c3 H3 hm2 k3 w3 l3 => ?_⟩
    obtain ⟨n, rfl, hn⟩ : ∃ n : Nat, v = V.int (n : Int) ∧ n ≤ 5 := by
      match m2, hm2 with
      | 0, hm => exact ⟨3, (Option.some.inj hm).symm, by decide⟩
      | 1, hm => exact ⟨4, (Option.some.inj hm).symm, by decide⟩
      | 2, hm => exact ⟨5, (Option.some.inj hm).symm, by decide⟩
    have k13 := (Kw.same s2).trans k3
    have p1' : k1.dep ≤ 2 := p1
    have z1 := Kd.kz_dep k1
    have z1' := Nat.pow_le_pow_right (n := 2) (by decide) p1'
    refine ⟨_, rfl, by omega, by omega, for_range (lo := 0) (n := (n : Int).toNat) (fun i σ H5 => ∃ (u2 u3 : Option V) (kv : V) (k : Kd) (c5 : Int), σ = [some (.ref w), some kv, u2, u3] ∧ Dt (Nw w) H5 kv k.d ∧ Kg (i + 3) (9 * 2 ^ i - 5) k ∧ Kw w H3 H5 ∧ Wl H5 w c5 ∧ c5 ≤ c3 + 21 * i)
      ⟨none, none, v1, k1, c3, rfl, d1.kw k13, ⟨o1, by omega, by omega⟩, Kw.refl w H3, w3, by omega⟩ ?_ ?_⟩
    · rintro x σ H5 hx ⟨u2, u3, kv, k, c5, rfl, dk, kg, k5, w5, l5⟩
      refine ⟨_, rfl, big _ (by show (4 : Nat) ≤ 1000; decide), fun t nt => ?_⟩
      have s6 := @Same.new t _ (.tup [.str "pair", .str "either", .str "fun", .str "pair"]) nt
      refine ⟨w, t, _, c5, rfl, w5.same s6, by omega, SqT.of upd_same, by decide, by decide, fun m v c7 H7 hm k7 w7 l7 => ?_⟩
      obtain ⟨wd, rfl, hwd⟩ : ∃ wd : Str, v = V.str wd ∧ (wd = "pair" ∨ wd = "either" ∨ wd = "fun") := by
        match m, hm with
        | 0, hm => exact ⟨_, (Option.some.inj hm).symm, .inl rfl⟩
        | 1, hm => exact ⟨_, (Option.some.inj hm).symm, .inr (.inl rfl)⟩
        | 2, hm => exact ⟨_, (Option.some.inj hm).symm, .inr (.inr rfl)⟩
        | 3, hm => exact ⟨_, (Option.some.inj hm).symm, .inl rfl⟩
      have dk7 := (dk.keep s6).kw k7
      refine ⟨_, rfl, _, rfl, _, rfl, _, rfl, w, kv, k, c7, x + 3, 9 * 2 ^ x - 5, rfl, dk7, kg, by omega, w7, by omega, fun v8 k8 c8 H8 d8 kg8 kw8 w8 l8 => ⟨big _ (by show (3 : Nat) ≤ 1000; decide), fun p np => ?_⟩⟩
      obtain ⟨e1, e2, e3, e4⟩ := mk2_d hwd k k8
      have dk8 := dk7.kw kw8
      have pw : 2 ^ (x + 1) = 2 * 2 ^ x := by rw [Nat.pow_succ]; omega
      have one : 1 ≤ 2 ^ x := Nat.one_le_two_pow
      have a1 := kg.dp; have a2 := kg.kz; have a3 := kg8.dp; have a4 := kg8.kz
      refine ⟨_, _, _, Kd.mk2 wd k k8, c8, rfl, ?_, ⟨by rw [e4, kg.ov, kg8.ov]; rfl, by rw [e2]; omega, by rw [e3, pw]; omega⟩, k5.trans ((Kw.same s6).trans (k7.trans (kw8.trans (Kw.new np)))), w8.same (Same.new np), by omega⟩
      rw [e1]
      exact layD (nwF w8) np (.cons (.str _) (.cons dk8 (.cons d8 .nil)))
    · rintro σ H5 ⟨u2, u3, kv, k, c5, rfl, dk, kg, k5, w5, l5⟩
      have pw : 2 ^ (n : Int).toNat ≤ 2 ^ 5 := Nat.pow_le_pow_right (by decide) (by omega)
      exact ⟨_, rfl, q kv k c5 H5 dk (kg.mono (by omega) (by omega)) (kw1.trans (k13.trans k5)) w5 (by omega)⟩
end
end J2
namespace KB
open PySem L2 PySem.Spec PyProof.Rows
def fD (fl : List (Str × Kd)) : PyData := .tuple (fl.map fun p => .tuple [.str p.1, p.2.d])
structure Fg (fl : List (Str × Kd)) : Prop where
  sub : (fl.map Prod.fst).Sublist abc
  kg : ∀ p ∈ fl, Kg 3 8 p.2 ∧ p.2.closed = true ∧ p.2.noFn = true
def fget (fl : List (Str × Kd)) (x : Str) : List Kd := (fl.filter fun p => decide (V.str p.1 = V.str x)).map Prod.snd
def Kd.put (fl : List (Str × Kd)) : Kd → Kd
  | num => num
  | unit => unit
  | var x => (fget fl x).headD (.var x)
  | lst a => .lst (a.put fl)
  | pair a b => .pair (a.put fl) (b.put fl)
  | eith a b => .eith (a.put fl) (b.put fl)
  | fn a b => .fn (a.put fl) (b.put fl)
theorem put_kids {fl : List (Str × Kd)} : ∀ {k : Kd}, k.isVar = false → (k.put fl).d = .tuple (.str k.word :: k.kids.map fun x => (x.put fl).d)
  | .num, _ => rfl
  | .unit, _ => rfl
  | .var _, h => by cases h
  | .lst a, _ => rfl
  | .pair a b, _ => rfl
  | .eith a b, _ => rfl
  | .fn a b, _ => rfl
def spFil : Sp := fun vs H Q _ => ∃ (w : Addr) (c : Int), vs = [.ref w] ∧ Wl H w c ∧ c + 200 < 2 ^ 60 ∧
  ∀ (v : V) (fl : List (Str × Kd)) (c' : Int) (H' : Hp), Dt (Nw w) H' v (fD fl) → Fg fl → Kw w H H' → Wl H' w c' → c' ≤ c + 120 → Q v H'
def spPut (n : Nat) : Sp := fun vs H Q _ => ∃ (F : Addr → Prop) (kv fv : V) (k : Kd) (fl : List (Str × Kd)), vs = [kv, fv] ∧ Dt F H kv k.d ∧ Dt F H fv (fD fl) ∧ k.dep ≤ n ∧ fl.length ≤ 3 ∧ (∀ p ∈ fl, p.2.okv = true ∧ p.2.dep ≤ 3) ∧
  ∀ (v : V) (H' : Hp), Same H H' → Dt (Ot []) H' v (k.put fl).d → Q v H'
theorem kd_dp {K : PySem.W.Frag} {F : Addr → Prop} {H : Hp} : ∀ {k : Kd} {v : V}, Dt F H v k.d → Dp K H v k.d
  | .num, v, h => by
    obtain ⟨a, rfl, _, h⟩ := kd_at h
    exact .tup (SqT.of h) (.cons (.str _) .nil)
  | .unit, v, h => by
    obtain ⟨a, rfl, _, h⟩ := kd_at h
    exact .tup (SqT.of h) (.cons (.str _) .nil)
  | .var x, v, h => by
    obtain ⟨a, rfl, _, h⟩ := kd_at h
    exact .tup (SqT.of h) (.cons (.str _) (.cons (.str _) .nil))
  | .lst a, v, h => by
    obtain ⟨a, rfl, _, z, h, hz⟩ := kd_at h
    exact .tup (SqT.of h) (.cons (.str _) (.cons (kd_dp hz) .nil))
  | .pair a b, v, h => by
    obtain ⟨a, rfl, _, y, z, h, hy, hz⟩ := kd_at h
    exact .tup (SqT.of h) (.cons (.str _) (.cons (kd_dp hy) (.cons (kd_dp hz) .nil)))
  | .eith a b, v, h => by
    obtain ⟨a, rfl, _, y, z, h, hy, hz⟩ := kd_at h
    exact .tup (SqT.of h) (.cons (.str _) (.cons (kd_dp hy) (.cons (kd_dp hz) .nil)))
  | .fn a b, v, h => by
    obtain ⟨a, rfl, _, y, z, h, hy, hz⟩ := kd_at h
    exact .tup (SqT.of h) (.cons (.str _) (.cons (kd_dp hy) (.cons (kd_dp hz) .nil)))
theorem kds_dp {K : PySem.W.Frag} {F : Addr → Prop} {H : Hp} : ∀ {ks : List Kd} {vs : List V}, DtA F H vs (ks.map Kd.d) → DpAll K H vs (ks.map Kd.d)
  | [], _, h => by cases h; exact .nil
  | k :: ks, _, h => by
    cases h with
    | cons h r => exact .cons (kd_dp h) (kds_dp r)
theorem kws_ok : (kwords.all fun x => PyData.strOk x) = true := by decide +kernel
theorem kw_ok {x : Str} (h : x ∈ kwords) : PyData.strOk x = true := List.all_eq_true.mp kws_ok x h
theorem kd_lay : ∀ k : Kd, k.okv = true → PyData.canLay0 k.d = true
  | .num, _ => by simp [Kd.d, PyData.canLay0, PyData.canLayAll0, kw_ok (x := "num") (by decide)]
  | .unit, _ => by simp [Kd.d, PyData.canLay0, PyData.canLayAll0, kw_ok (x := "unit") (by decide)]
  | .var x, h => by
    have : PyData.strOk x = true := by
      rcases abc_mem h with e | e | e
      · rw [e]; exact kw_ok (by decide)
      · rw [e]; exact kw_ok (by decide)
      · rw [e]; exact kw_ok (by decide)
    simp [Kd.d, PyData.canLay0, PyData.canLayAll0, kw_ok (x := "var") (by decide), this]
  | .lst a, h => by simp [Kd.d, PyData.canLay0, PyData.canLayAll0, kw_ok (x := "list") (by decide), kd_lay a h]
  | .pair a b, h => by
    obtain ⟨o1, o2⟩ := Bool.and_eq_true_iff.mp (show (a.okv && b.okv) = true from h)
    simp [Kd.d, PyData.canLay0, PyData.canLayAll0, kw_ok (x := "pair") (by decide), kd_lay a o1, kd_lay b o2]
  | .eith a b, h => by
    obtain ⟨o1, o2⟩ := Bool.and_eq_true_iff.mp (show (a.okv && b.okv) = true from h)
    simp [Kd.d, PyData.canLay0, PyData.canLayAll0, kw_ok (x := "either") (by decide), kd_lay a o1, kd_lay b o2]
  | .fn a b, h => by
    obtain ⟨o1, o2⟩ := Bool.and_eq_true_iff.mp (show (a.okv && b.okv) = true from h)
    simp [Kd.d, PyData.canLay0, PyData.canLayAll0, kw_ok (x := "fun") (by decide), kd_lay a o1, kd_lay b o2]
theorem kds_shaped {ks : List Kd} (h : ∀ k ∈ ks, k.okv = true ∧ k.dep ≤ 3) : SeqAt.shaped (.list (ks.map Kd.d)) = true := by
  have a : ∀ ks : List Kd, (∀ k ∈ ks, k.okv = true ∧ k.dep ≤ 3) → PyData.canLayAll0 (ks.map Kd.d) = true ∧ PyData.depthAll (ks.map Kd.d) ≤ 3 := fun ks => by
    induction ks with
    | nil => intro _; simp [PyData.canLayAll0, PyData.depthAll]
    | cons k ks ih =>
      intro h
      obtain ⟨h1, h2⟩ := ih fun x hx => h x (List.mem_cons_of_mem _ hx)
      obtain ⟨h3, h4⟩ := h k List.mem_cons_self
      have h5 := Kd.depth k
      refine ⟨by simp [PyData.canLayAll0, kd_lay k h3, h1], ?_⟩
      (simp only [List.map_cons, PyData.depthAll])
      omega
  obtain ⟨h1, h2⟩ := a ks h
  show (PyData.canLay0 (.list (ks.map Kd.d)) && decide ((PyData.list (ks.map Kd.d)).depth ≤ 64)) = true
  rw [show PyData.canLay0 (.list (ks.map Kd.d)) = true by simp only [PyData.canLay0, h1]]
  have : (PyData.list (ks.map Kd.d)).depth ≤ 64 := by simp only [PyData.depth]; omega
  rw [decide_eq_true this]
  rfl
theorem eqv_empty2 (ks : List Kd) : PyData.eqv (.list (ks.map Kd.d)) (.list []) = ks.isEmpty := by
  cases ks <;> rfl
theorem fget_one (fl : List (Str × Kd)) (x : Str) (i : Nat) (p : Str × Kd) (h : fl[i]? = some p) : fget (fl.take (i + 1)) x = fget (fl.take i) x ++ (if decide (V.str p.1 = V.str x) = true then [p.2] else []) := by
  rw [List.take_add_one, h]
  unfold fget
  rw [List.filter_append, List.map_append]
  congr 1
  show List.map Prod.snd (List.filter _ [p]) = _
  rw [List.filter_cons, List.filter_nil]
  by_cases g : decide (V.str p.1 = V.str x) = true
  · rw [if_pos g, if_pos g]; rfl
  · rw [if_neg g, if_neg g]; rfl
theorem fget_mem {fl : List (Str × Kd)} {x : Str} {k : Kd} (h : k ∈ fget fl x) : ∃ p ∈ fl, p.2 = k := by
  (obtain ⟨p, hp, rfl⟩ := List.mem_map.mp h)
  exact ⟨p, (List.mem_filter.mp hp).1, rfl⟩
theorem fget_len (fl : List (Str × Kd)) (x : Str) : (fget fl x).length ≤ fl.length := by
  unfold fget
  rw [List.length_map]
  exact List.length_filter_le _ _
theorem off1 {H : Hp} {D a : Addr} {acc xs : List V} (hD : H D = some (.lst acc)) (h : H a = some (.tup xs)) : Ot [D] a := fun z => by
  rw [List.mem_singleton.mp z, hD] at h
  cases h
theorem kd_off {F : Addr → Prop} {H : Hp} {D : Addr} {acc : List V} (hD : H D = some (.lst acc)) : ∀ {k : Kd} {v : V}, Dt F H v k.d → Dt (Ot [D]) H v k.d
  | .num, v, h => by
    obtain ⟨a, rfl, _, h⟩ := kd_at h
    exact .tup (off1 hD h) h (.cons (.str _) .nil)
  | .unit, v, h => by
    obtain ⟨a, rfl, _, h⟩ := kd_at h
    exact .tup (off1 hD h) h (.cons (.str _) .nil)
  | .var x, v, h => by
    obtain ⟨a, rfl, _, h⟩ := kd_at h
    exact .tup (off1 hD h) h (.cons (.str _) (.cons (.str _) .nil))
  | .lst a, v, h => by
    obtain ⟨a, rfl, _, z, h, hz⟩ := kd_at h
    exact .tup (off1 hD h) h (.cons (.str _) (.cons (kd_off hD hz) .nil))
  | .pair a b, v, h => by
    obtain ⟨a, rfl, _, y, z, h, hy, hz⟩ := kd_at h
    exact .tup (off1 hD h) h (.cons (.str _) (.cons (kd_off hD hy) (.cons (kd_off hD hz) .nil)))
  | .eith a b, v, h => by
    obtain ⟨a, rfl, _, y, z, h, hy, hz⟩ := kd_at h
    exact .tup (off1 hD h) h (.cons (.str _) (.cons (kd_off hD hy) (.cons (kd_off hD hz) .nil)))
  | .fn a b, v, h => by
    obtain ⟨a, rfl, _, y, z, h, hy, hz⟩ := kd_at h
    exact .tup (off1 hD h) h (.cons (.str _) (.cons (kd_off hD hy) (.cons (kd_off hD hz) .nil)))
theorem put_row (fl : List (Str × Kd)) (ks : List Kd) (i : Nat) (k : Kd) (h : ks[i]? = some k) : (ks.take (i + 1)).map (fun x => (x.put fl).d) = (ks.take i).map (fun x => (x.put fl).d) ++ [(k.put fl).d] := by
  rw [List.take_add_one, h, List.map_append]
  rfl
end KB
namespace J2
open PySem PySem.Spec PyProof.Rows L2 KB
section
variable {K : PySem.W.Frag} {mg : Str → Option Value} {base : Heap} {P : Program} {w : World}
abbrev nPut : List Str := ["_law_kind_here", "_law_filling_here", "_law_each", "_law_found", "_law_part"]
theorem scPut : FnScope nPut ["_law_kind_here", "_law_filling_here"] (defScope (top 45)) := ⟨rfl, rfl, rfl, by decide +kernel, rfl, by decide +kernel, by decide +kernel⟩
theorem put_body (n : Nat) {f : Addr} {fd : FuncData} {spR : Sp} (F : FnP K "_law_put" (top 45) f fd) (T : Bl K mg)
    (gR : mg "_law_put" = some (.ref f)) (bR : Binds K fd ["_law_kind_here", "_law_filling_here"] []) (GR : FnOk P w K mg base CX0 (1 + n) f fd ["_law_kind_here", "_law_filling_here"] spR)
    (hR : ∀ m, n = m + 1 → ∀ vs H Q, spPut m vs H Q E0 → spR vs H Q E0) : FnOk P w K mg base CX0 (1 + n + 1) f fd ["_law_kind_here", "_law_filling_here"] (spPut n) := by
  refine F.ok scPut (fun vs H Q E h => ?_) (fun cdv A outer s H vs Q E hr h => ?_)
  · obtain ⟨F, kv, fv, k, fl, rfl, _⟩ := h
    rfl
  · obtain ⟨Fa, kv, fv, k, fl, rfl, hk0, hf0, hdp, hfl, hfo, q⟩ := h
    have sc := scPut
    have hrR : Room (1 + n) _ := hr
    have hk : Dt (Ot []) H kv k.d := hk0.any
    have hf : Dt (Ot []) H fv (fD fl) := hf0.any
    have stN : ∀ (H' : Hp) p, H' p = none → Ot [] p := fun _ p _ z => by cases z
    refine ⟨_, PSs.nox (pss_cons (ps_if (pt_cmpR op_eq (pe_ix ix_tup (pv 0) pe_int (fun _ _ => rfl)) pe_str (nomark _)) (pss_cons (ps_setLc (i := 3) (own := [("_law_each", 2)]) (g := gName 2) (by rfl) sc.nd rfl rfl (sw_true rfl rfl rfl (by decide +kernel)) (pi_tup (pv 1)) (blkOk_by (own := [("_law_each", 2)]) (N := nPut) (sc := (defScope (top 45))) (by decide +kernel)) (fun _ _ _ _ _ => (pg_name (i := 2) sc.nd rfl (Or.inl rfl))) (fun _ _ _ _ _ => (pts_one (pt_cmpR op_eq (pe_ix (ixT (K := K) rfl) (pv 2) pe_int (fun _ _ => rfl)) (pe_ix (ixT (K := K) rfl) (pv 0) pe_int (fun _ _ => rfl)) (nomark _)))) (fun _ _ _ _ _ => (pe_ix (ixT (K := K) rfl) (pv 2) pe_int (fun _ _ => rfl)))) (pss_one (ps_ret (pe_ifExp (pt_cmpR (op_neD hr.units) (pv 3) (pe_lst pa_nil) (nomark _)) (pe_ix ix_list (pv 3) pe_int (fun _ _ => rfl)) (pv 0))))) pss_nil) (pss_one (ps_ret (pe_op op_catA (pe_slice sl_tupA (pv 0) po_none (po_some pe_int)) (pe_callTy call_tuple_of (by rfl) T.tuple (by decide +kernel) (pa_cons (pe_lc (own := [("_law_part", 4)]) (g := gName 4) (tt := tYes) (by rfl) sc.nd (pi_tup (pe_slice sl_tupA (pv 0) (po_some pe_int) po_none)) (blkOk_by (own := [("_law_part", 4)]) (N := nPut) (sc := (defScope (top 45))) (by decide +kernel)) (fun _ _ _ _ _ => (pg_name (i := 4) sc.nd rfl (Or.inl rfl))) (fun _ _ _ _ _ => pts_nil) (fun _ _ _ _ _ => (pe_call GR hrR rfl gR F.kp bR .nil pass0 (pa_cons (pv 4) (pa_cons (pv 1) pa_nil))))) pa_nil)))))), ?_⟩
    have big : ∀ k : Nat, k ≤ 1000 → k ≤ sizeLine := fun k h => Nat.le_of_lt (small1000 h)
    cases ev : k.isVar with
    | true =>
      obtain ⟨x, rfl⟩ : ∃ x, k = .var x := by
        cases k <;> first | exact ⟨_, rfl⟩ | cases ev
      obtain ⟨a, rfl, fa, ka⟩ := kd_at hk
      refine ⟨_, rfl, a, _, 0, _, rfl, rfl, SqT.of ka, rfl, rfl, _, rfl, ifT (decide_eq_true rfl) ?_⟩
      obtain ⟨fa2, fxs, rfl, ff, hfa, rf⟩ := hf.tupI
      have lf := rf.length
      rw [List.length_map] at lf
      refine ⟨_, rfl, fa2, rfl, ⟨_, SqT.of hfa⟩, fun D nD => lc_tup (K := K) (a := fa2) (xs := fxs) (fun i H2 => Same H H2 ∧ ∃ acc, H2 D = some (.lst acc) ∧ DtA (Ot [D]) H2 acc ((fget (fl.take i) x).map Kd.d)) ⟨Same.new nD, [], upd_same, .nil⟩
        (fun i H2 _ hP => SqT.of (hP.1 fa2 _ hfa)) ?_ ?_⟩
      · rintro i e H2 hi ⟨sm, acc, hD, da⟩
        obtain ⟨dd, hdd, dx⟩ := rf.get hi
        obtain ⟨p, hp, rfl⟩ : ∃ p, fl[i]? = some p ∧ PyData.tuple [.str p.1, p.2.d] = dd := by
          rw [List.getElem?_map] at hdd
          cases e : fl[i]? with
          | none => rw [e] at hdd; cases hdd
          | some p => rw [e] at hdd; exact ⟨p, rfl, Option.some.inj hdd⟩
        obtain ⟨pa, pxs, rfl, fp, hpa, rp⟩ := dx.tupI
        obtain ⟨p1, p2, rfl, e1, e2⟩ := rp.two
        have ee := e1.strI
        subst ee
        have la := da.length
        rw [List.length_map] at la
        have lg := fget_len (fl.take i) x
        rw [List.length_take] at lg
        have one := fget_one fl x i p hp
        refine ⟨rfl, ?_⟩
        refine ⟨_, rfl, pa, _, 0, _, rfl, rfl, SqT.of (sm _ _ hpa), rfl, _, rfl, a, _, 1, _, rfl, rfl, SqT.of (sm _ _ ka), rfl, rfl, _, rfl, ite2 (fun g => ?_) (fun g => ?_)⟩
        · rw [if_pos g] at one
          refine ⟨_, rfl, pa, _, 1, _, rfl, rfl, SqT.of (sm _ _ hpa), rfl, acc, hD, Nat.lt_of_le_of_lt (by omega : _ ≤ 3) (by decide), ?_, acc ++ [p2], upd_same, ?_⟩
          · intro b o e
            rw [upd_ne (ne_of_none e nD)]
            exact sm b o e
          · rw [one, List.map_append]
            have kk : Kp [D] H2 (upd H2 D (.lst (acc ++ [p2]))) := Kp.put (by simp)
            have e3 : Dt (Ot [D]) H2 p2 p.2.d := (e2.wide nD).keep sm
            exact (da.kp kk).append (.cons (e3.kp kk) .nil)
        · rw [if_neg g, List.append_nil] at one
          exact ⟨sm, acc, hD, by rw [one]; exact da⟩
      · rintro H2 ⟨sm, acc, hD, da⟩
        rw [lf, List.take_length] at da
        have ok3 : ∀ k ∈ fget fl x, k.okv = true ∧ k.dep ≤ 3 := fun k hk => by
          obtain ⟨p, hp, rfl⟩ := fget_mem hk
          exact hfo p hp
        refine ⟨_, rfl, Nat.zero_le _, fun z nz => ?_⟩
        have s4 := @Same.new z _ (.lst []) nz
        have da4 := (da.any).keep s4
        refine ⟨.list ((fget fl x).map Kd.d), .list [], .lst (SqL.of (s4 _ _ hD)) (kds_dp da4), .lst (SqL.of upd_same) .nil, kds_shaped ok3, rfl, _, rfl, ?_⟩
        rw [eqv_empty2]
        have ep : (Kd.var x).put fl = (fget fl x).headD (.var x) := rfl
        rw [ep] at q
        cases eg : fget fl x with
        | nil =>
          rw [eg] at q
          refine ifF rfl ⟨_, rfl, q _ _ (sm.trans s4) ((hk.keep sm).keep s4)⟩
        | cons k1 ks =>
          rw [eg] at q da4
          cases da4 with
          | @cons v1 vs1 _ _ dv1 dr =>
          refine ifT rfl ⟨_, rfl, D, _, 0, _, rfl, rfl, SqL.of (s4 _ _ hD), atI_nat (j := 0) rfl, q _ _ (sm.trans s4) dv1⟩
    | false =>
      obtain ⟨e3, _⟩ := Kd.d_eqv ev
      have pk := put_kids (fl := fl) ev
      rw [e3] at hk
      obtain ⟨a, xs, rfl, fa, ha, r⟩ := id hk.tupI
      cases r with
      | @cons x xs' _ _ h0 r' =>
      have e0 := h0.strI
      subst e0
      refine ⟨_, rfl, a, _, 0, _, rfl, rfl, SqT.of ha, atI_nat (j := 0) rfl, rfl, _, rfl, ifF (decide_eq_false fun z => Kd.word_var ev (V.str.inj z)) ?_⟩
      refine slT (K := K) 1 (stN _) rfl hk (by simp) fun u1 H1 s1 d1 => ?_
      have hk1 := hk.keep s1
      have hf1 := hf.keep s1
      refine slC (K := K) 1 (stN _) rfl hk1 fun u HD sD dD => ?_
      have sHD := s1.trans sD
      obtain ⟨b, ys, rfl, fb, hb, rb⟩ := dD.tupI
      have rb' : DtA (Ot []) HD ys (k.kids.map Kd.d) := rb
      have lx := rb'.length
      rw [List.length_map] at lx
      have k2l := Kd.kids_len k
      refine ⟨b, rfl, ⟨_, SqT.of hb⟩, fun D nD => lc_tup (K := K) (a := b) (xs := ys) (fun i H2 => Same HD H2 ∧ ∃ acc, H2 D = some (.lst acc) ∧ DtA (Ot [D]) H2 acc ((k.kids.take i).map fun x => (x.put fl).d)) ⟨Same.new nD, [], upd_same, .nil⟩
        (fun i H2 _ hP => SqT.of (hP.1 b _ hb)) ?_ ?_⟩
      · rintro i y H2 hi ⟨sm, acc, hD, da⟩
        obtain ⟨dd, hdd, dx⟩ := rb'.get hi
        obtain ⟨k2, hk2, rfl⟩ : ∃ k2, k.kids[i]? = some k2 ∧ k2.d = dd := by
          rw [List.getElem?_map] at hdd
          cases e : k.kids[i]? with
          | none => rw [e] at hdd; cases hdd
          | some k2 => rw [e] at hdd; exact ⟨k2, rfl, Option.some.inj hdd⟩
        have kl := Kd.kids_dep k2 (List.mem_of_getElem? hk2)
        (obtain ⟨m, rfl⟩ : ∃ m, n = m + 1 := ⟨n - 1, by omega⟩)
        have la := da.length
        rw [List.length_map, List.length_take] at la
        refine ⟨rfl, ?_⟩
        refine iteT (B := Same HD H2 ∧ ∃ acc, H2 D = some (.lst acc) ∧ DtA (Ot [D]) H2 acc ((k.kids.take (i + 1)).map fun x => (x.put fl).d)) ?_
        refine ⟨_, rfl, _, rfl, hR m rfl _ _ _ ⟨_, y, fv, k2, fl, rfl, dx.keep sm, (hf.keep sHD).keep sm, by omega, hfl, hfo, fun v3 H3 s3 d3 => ?_⟩⟩
        have hD3 := s3 _ _ hD
        refine ⟨acc, hD3, Nat.lt_of_le_of_lt (by omega : _ ≤ 3) (by decide), fun b o e => ?_, acc ++ [v3], upd_same, ?_⟩
        · rw [upd_ne (ne_of_none e nD)]
          exact s3 b o (sm b o e)
        · rw [put_row fl _ i k2 hk2]
          have kk : Kp [D] H3 (upd H3 D (.lst (acc ++ [v3]))) := Kp.put (by simp)
          exact ((da.keep s3).kp kk).append (.cons ((kd_off hD3 d3).kp kk) .nil)
      · rintro H2 ⟨sm, acc, hD, da⟩
        rw [lx, List.take_length] at da
        refine ⟨D, acc, rfl, .inl ⟨SqL.of hD, fun l nl => ?_⟩⟩
        have s4 := @Same.new l _ (.tup acc) nl
        have d4 : Dt (Ot []) (upd H2 l (.tup acc)) (.ref l) (.tuple (k.kids.map fun x => (x.put fl).d)) := layD (stN _) nl da.any
        have d5 : Dt (Ot []) (upd H2 l (.tup acc)) u1 (.tuple [.str k.word]) := (((d1.keep sD).keep sm).keep s4)
        refine catD (K := K) (stN _) d5 d4 (by rw [List.length_map]; show 1 + _ ≤ _; omega) fun v6 H6 s6 d6 => ?_
        refine q v6 H6 (sHD.trans (sm.trans (s4.trans s6))) ?_
        rw [pk]
        exact d6
theorem ok_put {f : Addr} {fd : FuncData} (F : FnP K "_law_put" (top 45) f fd) (T : Bl K mg)
    (gR : mg "_law_put" = some (.ref f)) (bR : Binds K fd ["_law_kind_here", "_law_filling_here"] []) : ∀ n : Nat, FnOk P w K mg base CX0 (1 + n + 1) f fd ["_law_kind_here", "_law_filling_here"] (spPut n)
  | 0 => put_body 0 (spR := fun _ _ _ _ => False) F T gR bR ⟨fun _ _ _ _ h => h.elim, fun _ _ _ _ _ _ _ _ _ _ _ _ _ h => h.elim⟩ fun m e => by cases e
  | n + 1 => put_body (n + 1) F T gR bR (ok_put F T gR bR n) fun m e => by cases e; exact fun _ _ _ h => h
end
end J2
namespace KB
open PySem L2 PySem.Spec PyProof.Rows
theorem kd_offN {F : Addr → Prop} {H : Hp} {D : Addr} {acc : List V} (hD : H D = some (.lst acc)) : ∀ {k : Kd} {v : V}, Dt F H v k.d → Dt (fun a => F a ∧ a ≠ D) H v k.d := by
  have ne : ∀ {a : Addr} {xs : List V}, H a = some (.tup xs) → a ≠ D := fun h z => by
    rw [z, hD] at h
    cases h
  intro k
  induction k with
  | num =>
    intro v h
    obtain ⟨a, rfl, fa, h⟩ := kd_at h
    exact .tup ⟨fa, ne h⟩ h (.cons (.str _) .nil)
  | unit =>
    intro v h
    obtain ⟨a, rfl, fa, h⟩ := kd_at h
    exact .tup ⟨fa, ne h⟩ h (.cons (.str _) .nil)
  | var x =>
    intro v h
    obtain ⟨a, rfl, fa, h⟩ := kd_at h
    exact .tup ⟨fa, ne h⟩ h (.cons (.str _) (.cons (.str _) .nil))
  | lst a ih =>
    intro v h
    obtain ⟨a, rfl, fa, z, h, hz⟩ := kd_at h
    exact .tup ⟨fa, ne h⟩ h (.cons (.str _) (.cons (ih hz) .nil))
  | pair a b ia ib =>
    intro v h
    obtain ⟨a, rfl, fa, y, z, h, hy, hz⟩ := kd_at h
    exact .tup ⟨fa, ne h⟩ h (.cons (.str _) (.cons (ia hy) (.cons (ib hz) .nil)))
  | eith a b ia ib =>
    intro v h
    obtain ⟨a, rfl, fa, y, z, h, hy, hz⟩ := kd_at h
    exact .tup ⟨fa, ne h⟩ h (.cons (.str _) (.cons (ia hy) (.cons (ib hz) .nil)))
  | fn a b ia ib =>
    intro v h
    obtain ⟨a, rfl, fa, y, z, h, hy, hz⟩ := kd_at h
    exact .tup ⟨fa, ne h⟩ h (.cons (.str _) (.cons (ia hy) (.cons (ib hz) .nil)))
theorem ck3 : ∀ n, n ≤ 3 → Ck n ≤ 30 := by decide
def pD2 (p : Str × Kd) : PyData := .tuple [.str p.1, p.2.d]
theorem bools3 (a b c : Bool) : (PyData.list [.bool a, .bool b, .bool c]).showable = true ∧ (PyData.list [.bool a, .bool b, .bool c]).depth ≤ 180 ∧ sz (.list [.bool a, .bool b, .bool c]) ≤ 10000000 := by
  cases a <;> cases b <;> cases c <;> exact ⟨by decide +kernel, by decide +kernel, by decide +kernel⟩
def spJd : Sp := fun vs H Q _ => ∃ (F : Addr → Prop) (v : V) (b : Bool) (d : PyData), vs = [v, .bl b] ∧ Dt F H v d ∧ d.showable = true ∧ d.depth ≤ 170 ∧ sz d ≤ 4000000 ∧ ∀ H', Same H H' → Q (.bl true) H'
def g1 {α : Type} (us ws : List α) : List α := match us, ws with
  | [], [v] => [v]
  | _, _ => []
theorem g1_rel {vs : List V} {us : List Value} {zs : List V} {ws : List Value} (r : Vals vs us) (q : Vals zs ws) : Vals (g1 vs zs) (g1 us ws) := by
  cases r with
  | cons _ _ => exact .nil
  | nil =>
    cases q with
    | nil => exact .nil
    | cons a q => cases q with
      | nil => exact .cons a .nil
      | cons b q => exact .nil
end KB
namespace J2
open PySem PySem.Spec PyProof.Rows L2 KB
section
variable {K : PySem.W.Frag} {mg : Str → Option Value} {base : Heap} {P : Program} {w : World}
abbrev nFil : List Str := ["_law_well_here", "_law_found", "_law_var"]
theorem scFil : FnScope nFil ["_law_well_here"] (defScope (top 44)) := ⟨rfl, rfl, rfl, by decide +kernel, rfl, by decide +kernel, by decide +kernel⟩
theorem ok_fil {f : Addr} {fd : FuncData} (F : FnP K "_law_filling" (top 44) f fd) (T : Bl K mg) (hK : Has P w K mg base "_law_kind" ["_law_well_here", "_law_deep", "_law_which"] 10 (fun vs H Q E => ∃ n, n ≤ 6 ∧ spKd2 n vs H Q E))
    (hP : Has P w K mg base "_law_pick" ["_law_well_here", "_law_some"] 2 (spPick K)) (hD : Has P w K mg base "_law_draw" ["_law_well_here", "_law_many"] 1 spDraw) : FnOk P w K mg base CX0 11 f fd ["_law_well_here"] spFil := by
  obtain ⟨fK, fdK, kK, gK, bK, GK⟩ := hK
  obtain ⟨fP, fdP, kP, gP, bP, GP⟩ := hP
  obtain ⟨fD, fdD, kD, gD, bD, GD⟩ := hD
  refine F.ok scFil (fun vs H Q E h => ?_) (fun cdv A outer s H vs Q E hr h => ?_)
  · obtain ⟨w, c, rfl, _⟩ := h
    rfl
  · obtain ⟨w, c, rfl, hw, hc, q⟩ := h
    have sc := scFil
    have hrK : Room 10 _ := hr
    have hrP : Room 2 _ := hr.mono (by omega)
    have hrD : Room 1 _ := hr.mono (by omega)
    refine ⟨_, PSs.nox (pss_cons (ps_set (i := 1) sc.nd rfl (Or.inl rfl) (pe_lst pa_nil)) (pss_cons (ps_for PassesOwn.never rfl (pi_tup (pe_tup (pa_cons pe_str (pa_cons pe_str (pa_cons pe_str pa_nil))))) (pg_name (i := 2) sc.nd rfl (Or.inl rfl)) (pss_one (ps_if (pt_cmpR op_gt (pe_call GD hrD rfl gD kD bD .nil pass0 (pa_cons (pv 0) (pa_cons pe_int pa_nil))) pe_int (nomark _)) (pss_one (ps_expr (pe_bm PySem.F.plainAttrs_list PySem.F.slot_list_append PySem.F.type_list_append mt_append (pv 1) (pa_cons (pe_tup (pa_cons (pv 2) (pa_cons (pe_call GK hrK rfl gK kK bK .nil pass0 (pa_cons (pv 0) (pa_cons (pe_call GP hrP rfl gP kP bP .nil pass0 (pa_cons (pv 0) (pa_cons (pe_tup (pa_cons pe_int (pa_cons pe_int (pa_cons pe_int (pa_cons pe_int pa_nil))))) pa_nil))) (pa_cons pe_int pa_nil)))) pa_nil))) pa_nil)))) pss_nil))) (pss_one (ps_ret (pe_callTy call_tuple_of (by rfl) T.tuple (by decide +kernel) (pa_cons (pv 1) pa_nil)))))), ?_⟩
    have big : ∀ k : Nat, k ≤ 1000 → k ≤ sizeLine := fun k h => Nat.le_of_lt (small1000 h)
    refine ⟨Nat.zero_le _, fun L nL => ?_⟩
    have s1 := @Same.new L _ (.lst []) nL
    have w1 := hw.same s1
    have wL : w ≠ L := hw.ne nL
    have hL1 : (upd H L (.lst [])) L = some (.lst []) := upd_same
    have kp1 : Kp [L, w] H (upd H L (.lst [])) := Kp.same s1
    generalize upd H L (.lst []) = H1 at s1 w1 hL1 kp1 ⊢
    refine ⟨big _ (by show (3 : Nat) ≤ 1000; decide), fun t nt => ?_⟩
    have s2 := @Same.new t _ (.tup (abc.map V.str)) nt
    have tL : t ≠ L := fun z => by rw [z, hL1] at nt; cases nt
    have tw : t ≠ w := fun z => (w1.ne nt) z.symm
    have ht2 : (upd H1 t (.tup (abc.map V.str))) t = some (.tup (abc.map V.str)) := upd_same
    have w2 := w1.same s2
    have hL2 := s2 _ _ hL1
    have kp2 := kp1.trans (Kp.same (S := [L, w]) s2)
    refine ⟨t, rfl, ⟨_, SqT.of ht2⟩, for_tup (K := K) (a := t) (xs := abc.map V.str) (fun i σ H3 => ∃ (u2 : Option V) (acc : List V) (fl : List (Str × Kd)) (c3 : Int), σ = [some (.ref w), some (.ref L), u2] ∧ Kp [L, w] H H3 ∧ H3 t = some (.tup (abc.map V.str)) ∧ H3 L = some (.lst acc) ∧
      DtA (Ot [L, w]) H3 acc (fl.map pD2) ∧ (fl.map Prod.fst).Sublist (abc.take i) ∧ (∀ p ∈ fl, Kg 3 8 p.2 ∧ p.2.closed = true ∧ p.2.noFn = true) ∧ Wl H3 w c3 ∧ c3 ≤ c + 40 * (i : Int))
      ⟨none, [], [], c, rfl, kp2, ht2, hL2, .nil, List.Sublist.refl _, (fun p h => nomatch h), w2, by omega⟩
      (fun i σ H3 _ hP => by
        obtain ⟨_, _, _, _, _, _, h, _⟩ := hP
        exact SqT.of h) ?_ ?_⟩
    · rintro i x σ H3 hi ⟨u2, acc, fl, c3, rfl, kp3, ht3, hL3, da, sub, good, w3, l3⟩
      obtain ⟨y, rfl, hy⟩ : ∃ y, x = .str y ∧ abc[i]? = some y := by
        rw [List.getElem?_map] at hi
        cases e : abc[i]? with
        | none => rw [e] at hi; cases hi
        | some y => rw [e] at hi; exact ⟨y, (Option.some.inj hi).symm, rfl⟩
      have i3 : i < 3 := (List.getElem?_eq_some_iff.mp hy).1
      have la := da.length
      rw [List.length_map] at la
      have ls := sub.length_le
      rw [List.length_map, List.length_take] at ls
      have tk : abc.take (i + 1) = abc.take i ++ [y] := by rw [List.take_add_one, hy]; rfl
      refine ⟨_, rfl, w, 3, c3, rfl, w3, by omega, by decide, by decide, fun r c4 H4 r0 r1 k4 w4 l4 => ⟨_, _, rfl, rfl, _, rfl, ite2 (fun g => ?_) (fun g => ?_)⟩⟩
      · have hL4 := k4 _ _ wL.symm hL3
        have ht4 := k4 _ _ tw ht3
        have kq4 : Kp [L, w] H3 H4 := k4.kp (by simp)
        refine ⟨_, rfl, .inl ⟨rfl, _, SqL.of hL4⟩, _, rfl, _, rfl, _, rfl, big _ (by show (4 : Nat) ≤ 1000; decide), fun t2 nt2 => ?_⟩
        have s5 := @Same.new t2 _ (.tup [.int 1, .int 1, .int 2, .int 3]) nt2
        refine ⟨w, t2, _, c4, rfl, w4.same s5, by omega, SqT.of upd_same, by decide, by decide, fun m v c6 H6 hm k6 w6 l6 => ?_⟩
        obtain ⟨n, rfl, hn⟩ : ∃ n : Nat, v = V.int (n : Int) ∧ n ≤ 3 ∧ 1 ≤ n := by
          match m, hm with
          | 0, hm => exact ⟨1, (Option.some.inj hm).symm, by decide⟩
          | 1, hm => exact ⟨1, (Option.some.inj hm).symm, by decide⟩
          | 2, hm => exact ⟨2, (Option.some.inj hm).symm, by decide⟩
          | 3, hm => exact ⟨3, (Option.some.inj hm).symm, by decide⟩
        have cn := ck3 n hn.1
        refine ⟨n, by omega, w, 2, c6, rfl, w6, by omega, fun v7 k7 c7 H7 d7 p7 cl7 nf7 ov7 kw7 w7 l7 => ⟨big _ (by show (2 : Nat) ≤ 1000; decide), fun p np => ?_⟩⟩
        have k47 : Kw w H4 H7 := (Kw.same s5).trans (k6.trans kw7)
        have hL7 := k47 _ _ wL.symm hL4
        have ht7 := k47 _ _ tw ht4
        have pL : L ≠ p := ne_of_none hL7 np
        have pw : w ≠ p := w7.ne np
        have pt : t ≠ p := ne_of_none ht7 np
        refine ⟨L, acc, _, rfl, rfl, by rw [upd_ne pL]; exact hL7, Nat.lt_of_le_of_lt (by omega : _ ≤ 10) (by decide), ?_⟩
        have kq7 : Kp [L, w] H4 H7 := k47.kp (by simp)
        have kq8 : Kp [L, w] H7 (upd (upd H7 p (.tup [.str y, v7])) L (.lst (acc ++ [.ref p]))) := (Kp.new np).trans (Kp.put (by simp))
        have p7' : k7.dep ≤ 3 := by omega
        have z7 := Kd.kz_dep k7
        have z7' := Nat.pow_le_pow_right (n := 2) (by decide) p7'
        have fp : Ot [L, w] p := fun z => by
          (rcases (List.mem_cons.mp z) with z | z)
          · exact pL z.symm
          · exact pw (List.mem_singleton.mp z).symm
        have d7' : Dt (Ot [L, w]) H7 v7 k7.d := (kd_offN hL7 d7).move fun a o f e => ⟨fun z => by
          (rcases (List.mem_cons.mp z) with z | z)
          · exact f.2 z
          · exact f.1 (List.mem_singleton.mp z), e⟩
        refine ⟨_, acc ++ [.ref p], fl ++ [(y, k7)], c7, rfl, kp3.trans (kq4.trans (kq7.trans kq8)), ?_, upd_same, ?_, ?_, ?_, ?_, by omega⟩
        · rw [upd_ne tL, upd_ne pt]
          exact ht7
        · rw [List.map_append]
          refine (((da.kp kq4).kp kq7).kp kq8).append (.cons (.tup fp ?_ (.cons (.str y) (.cons (d7'.kp kq8) .nil))) .nil)
          rw [upd_ne (fun z => pL z.symm), upd_same]
        · rw [List.map_append, tk]
          exact sub.append (List.Sublist.refl _)
        · intro q1 hq1
          rcases List.mem_append.mp hq1 with z | z
          · exact good q1 z
          · (rw [List.mem_singleton.mp z])
            exact ⟨⟨ov7, p7', by show k7.kz ≤ 8; omega⟩, cl7 (by decide), nf7 (.inr rfl)⟩
        · obtain ⟨n', m', z', e', r'⟩ := w7.same (Same.new (o := .tup [.str y, v7]) np)
          exact ⟨n', m', z', by rw [upd_ne wL]; exact e', r'⟩
      · refine ⟨_, acc, fl, c4, rfl, kp3.trans (k4.kp (by simp)), k4 _ _ tw ht3, k4 _ _ wL.symm hL3, da.kp (k4.kp (by simp)), by rw [tk]; exact sub.trans (List.sublist_append_left _ _), good, w4, by omega⟩
    · rintro σ H3 ⟨u2, acc, fl, c3, rfl, kp3, ht3, hL3, da, sub, good, w3, l3⟩
      refine ⟨_, rfl, L, acc, rfl, .inl ⟨SqL.of hL3, fun l nl => ?_⟩⟩
      have s4 := @Same.new l _ (.tup acc) nl
      have da' : DtA (Nw w) H3 acc (fl.map pD2) := da.move fun a o f e => ⟨fun z => f (by rw [z]; simp), e⟩
      have l3' : c3 ≤ c + 120 := by
        have : ((abc.map V.str).length : Int) = 3 := rfl
        omega
      exact q (.ref l) fl c3 _ (layD (nwF w3) nl da') ⟨by simpa using sub, good⟩ (((Kp.thin kp3 nL).kw).trans (Kw.same s4)) (w3.same s4) l3'
abbrev nSame : List Str := ["_law_one", "_law_two"]
theorem scSame : FnScope nSame nSame (defScope (top 29)) := ⟨rfl, rfl, rfl, by decide +kernel, rfl, by decide +kernel, by decide +kernel⟩
theorem ok_same {f : Addr} {fd : FuncData} (F : FnP K "_law_same" (top 29) f fd) (T : Bl K mg) : FnG P w K mg base 1 f fd nSame spSame := by
  refine okG F scSame (fun vs H Q h => ?_) (fun cdv A outer s H vs Q hgd hr h => ?_)
  · obtain ⟨F, x, y, d, rfl, _⟩ := h
    rfl
  · obtain ⟨F, x, y, d, rfl, dx, dy, sh, dp, zz, q⟩ := h
    have sc := scSame
    refine ⟨_, (pss_one (ps_ret (pe_cmpR op_eq (pe_callB (call_reprL T.sys hgd hr) (by rfl) T.repr (by decide +kernel) (pa_cons (pv 0) pa_nil)) (pe_callB (call_reprL T.sys hgd hr) (by rfl) T.repr (by decide +kernel) (pa_cons (pv 1) pa_nil)) (nomark _)))), ?_⟩
    refine ⟨_, rfl, F, x, d, rfl, dx, sh, dp, zz, _, rfl, F, y, d, rfl, dy, sh, dp, zz, rfl, ?_⟩
    have e : decide (V.str d.shown = V.str d.shown) = true := decide_eq_true rfl
    show Q (.bl (decide (V.str d.shown = V.str d.shown))) H
    rw [e]
    exact q
theorem kb9 {f : Addr} {fd : FuncData} (F : FnP K "is_kind" (top 9) f fd) : KBinds K fd ["value"] ["value"] g1 g1 :=
  kb_of F (fun _ _ _ _ _ _ us ws hl => match us, ws, hl with
    | [], [_], _ => rfl
    | [], [], hl => nomatch hl
    | [], _ :: _ :: _, hl => nomatch hl
    | _ :: _, _, hl => nomatch hl) g1_rel
theorem kb10 {f : Addr} {fd : FuncData} (F : FnP K "is_data_kind" (top 10) f fd) : KBinds K fd ["value"] ["value"] g1 g1 :=
  kb_of F (fun _ _ _ _ _ _ us ws hl => match us, ws, hl with
    | [], [_], _ => rfl
    | [], [], hl => nomatch hl
    | [], _ :: _ :: _, hl => nomatch hl
    | _ :: _, _, hl => nomatch hl) g1_rel
theorem kb11 {f : Addr} {fd : FuncData} (F : FnP K "is_closed_kind" (top 11) f fd) : KBinds K fd ["value"] ["value"] g1 g1 :=
  kb_of F (fun _ _ _ _ _ _ us ws hl => match us, ws, hl with
    | [], [_], _ => rfl
    | [], [], hl => nomatch hl
    | [], _ :: _ :: _, hl => nomatch hl
    | _ :: _, _, hl => nomatch hl) g1_rel
abbrev nJd : List Str := ["_law_thing", "_law_by_name", "_law_due", "_law_shown", "_law_found"]
theorem scJd : FnScope nJd ["_law_thing", "_law_by_name"] (defScope (top 46)) := ⟨rfl, rfl, rfl, by decide +kernel, rfl, by decide +kernel, by decide +kernel⟩
theorem ok_jd {f fX fY fZ : Addr} {fd fdX fdY fdZ : FuncData} (F : FnP K "_law_is_judged" (top 46) f fd) (T : Bl K mg)
    (FX : FnP K "is_kind" (top 9) fX fdX) (gX : mg "is_kind" = some (.ref fX)) (bX : Binds K fdX ["value"] []) (GX : FnOk P w K mg base CX0 5 fX fdX ["value"] (spIsG isK))
    (FY : FnP K "is_data_kind" (top 10) fY fdY) (gY : mg "is_data_kind" = some (.ref fY)) (bY : Binds K fdY ["value"] []) (GY : FnOk P w K mg base CX0 5 fY fdY ["value"] (spIsG isDk))
    (FZ : FnP K "is_closed_kind" (top 11) fZ fdZ) (gZ : mg "is_closed_kind" = some (.ref fZ)) (bZ : Binds K fdZ ["value"] []) (GZ : FnOk P w K mg base CX0 5 fZ fdZ ["value"] (spIsG isCk))
    (hK : Has P w K mg base "_law_is_kind" ["_law_thing"] (1 + 170 + 2) (spIk 170)) (hA : Has P w K mg base "_law_is_data" ["_law_thing"] (1 + 170 + 3) (spId 170)) (hB : Has P w K mg base "_law_is_closed" ["_law_thing"] (1 + 170 + 3) (spIc 170))
    (hS : HasG P w K mg base "_law_same" nSame 1 spSame) : FnG P w K mg base 175 f fd ["_law_thing", "_law_by_name"] spJd := by
  obtain ⟨fK, fdK, kK, gK, bK, GK⟩ := hK
  obtain ⟨fA, fdA, kA, gA, bA, GA⟩ := hA
  obtain ⟨fB, fdB, kB, gB, bB, GB⟩ := hB
  obtain ⟨fS, fdS, kS, gS, bS, GS⟩ := hS
  have kX := FX.kp
  have kY := FY.kp
  have kZ := FZ.kp
  have kbX := kb9 FX
  have kbY := kb10 FY
  have kbZ := kb11 FZ
  refine okG F scJd (fun vs H Q h => ?_) (fun cdv A outer s H vs Q hgd hr h => ?_)
  · obtain ⟨F, v, b, d, rfl, _⟩ := h
    rfl
  · obtain ⟨Fa, v, b, d, rfl, hd0, hsh, hdp, hsz, q⟩ := h
    have sc := scJd
    have hrK : Room (1 + 170 + 2) _ := hr.mono (by omega)
    have hrA : Room (1 + 170 + 3) _ := hr
    have hrB : Room (1 + 170 + 3) _ := hr
    have hrX : Room 5 _ := hr.mono (by omega)
    have hrY : Room 5 _ := hr.mono (by omega)
    have hrZ : Room 5 _ := hr.mono (by omega)
    have hrS : Room 1 _ := hr.mono (by omega)
    have hd : Dt (Ot []) H v d := hd0.any
    refine ⟨_, (pss_cons (ps_par (i := 2) (j := 3) (by rfl) sc.nd rfl rfl (by decide) rfl rfl (pa_cons (pe_lst (pa_cons (pe_call GK hrK rfl gK kK bK .nil pass0 (pa_cons (pv 0) pa_nil)) (pa_cons (pe_call GA hrA rfl gA kA bA .nil pass0 (pa_cons (pv 0) pa_nil)) (pa_cons (pe_call GB hrB rfl gB kB bB .nil pass0 (pa_cons (pv 0) pa_nil)) pa_nil)))) (pa_cons (pe_callB (call_reprL T.sys hgd hr) (by rfl) T.repr (by decide +kernel) (pa_cons (pv 0) pa_nil)) pa_nil)) (by rfl)) (pss_cons (ps_if (pt_truth (pv 1) (by intro _; rfl)) (pss_one (ps_set (i := 4) sc.nd rfl (Or.inl rfl) (pe_lst (pa_cons (pe_callK0 GX hrX rfl gX kX kbX pass0 (pk_cons (pv 0) pk_nil)) (pa_cons (pe_callK0 GY hrY rfl gY kY kbY pass0 (pk_cons (pv 0) pk_nil)) (pa_cons (pe_callK0 GZ hrZ rfl gZ kZ kbZ pass0 (pk_cons (pv 0) pk_nil)) pa_nil)))))) (pss_one (ps_set (i := 4) sc.nd rfl (Or.inl rfl) (pe_lst (pa_cons (pe_call GX hrX rfl gX kX bX .nil pass0 (pa_cons (pv 0) pa_nil)) (pa_cons (pe_call GY hrY rfl gY kY bY .nil pass0 (pa_cons (pv 0) pa_nil)) (pa_cons (pe_call GZ hrZ rfl gZ kZ bZ .nil pass0 (pa_cons (pv 0) pa_nil)) pa_nil))))))) (pss_one (ps_ret (pe_and (pe_callG GS hgd hrS rfl gS kS bS .nil (pa_cons (pv 4) (pa_cons (pv 2) pa_nil))) (pe_one (pe_cmpR op_eq (pe_callB (call_reprL T.sys hgd hr) (by rfl) T.repr (by decide +kernel) (pa_cons (pv 0) pa_nil)) (pv 3) (nomark _)))))))), ?_⟩
    have big : ∀ k : Nat, k ≤ 1000 → k ≤ sizeLine := fun k h => Nat.le_of_lt (small1000 h)
    obtain ⟨b1, b2, b3⟩ := bools3 (isK d) (isDk d) (isCk d)
    refine ⟨_, rfl, _, v, d, rfl, hd, hdp, fun H1 s1 => ⟨_, rfl, _, v, d, rfl, hd.keep s1, hdp, hsz, fun H2 s2 => ⟨_, rfl, _, v, d, rfl, (hd.keep s1).keep s2, hdp, hsz, fun H3 s3 => ?_⟩⟩⟩
    have s03 := s1.trans (s2.trans s3)
    refine ⟨big _ (by show (3 : Nat) ≤ 1000; decide), fun D nD => ?_⟩
    have s4 := s03.trans (@Same.new D _ (.lst [.bl (isK d), .bl (isDk d), .bl (isCk d)]) nD)
    have hD4 : (upd H3 D (.lst [.bl (isK d), .bl (isDk d), .bl (isCk d)])) D = some (.lst [.bl (isK d), .bl (isDk d), .bl (isCk d)]) := upd_same
    generalize upd H3 D (.lst [.bl (isK d), .bl (isDk d), .bl (isCk d)]) = H4 at s4 hD4 ⊢
    refine ⟨_, rfl, _, v, d, rfl, hd.keep s4, hsh, by omega, by omega, ?_⟩
    have lst3 : ∀ {p : Addr} {H8 : Hp}, H8 p = some (.lst [.bl (isK d), .bl (isDk d), .bl (isCk d)]) → Dt (Ot []) H8 (.ref p) (.list [.bool (isK d), .bool (isDk d), .bool (isCk d)]) := fun h => .lst (fun z => by cases z) h (.cons (.bl _) (.cons (.bl _) (.cons (.bl _) .nil)))
    refine ⟨_, _, rfl, _, rfl, b, rfl, ?_⟩
    cases b with
    | true =>
      refine ifT rfl ?_
      refine ⟨_, rfl, _, v, d, rfl, hd.keep s4, hsz, fun H5 s5 => ⟨_, rfl, _, v, d, rfl, (hd.keep s4).keep s5, hsz, fun H6 s6 => ⟨_, rfl, _, v, d, rfl, ((hd.keep s4).keep s5).keep s6, hsz, fun H7 s7 => ⟨big _ (by show (3 : Nat) ≤ 1000; decide), fun p np => ?_⟩⟩⟩⟩
      have s8 := s5.trans (s6.trans (s7.trans (@Same.new p _ (.lst [.bl (isK d), .bl (isDk d), .bl (isCk d)]) np)))
      refine ⟨_, rfl, _, rfl, _, _, _, _, rfl, lst3 upd_same, lst3 (s8 _ _ hD4), b1, b2, b3, ?_⟩
      refine ⟨_, rfl, ifT rfl ⟨_, rfl, _, v, d, rfl, (hd.keep s4).keep s8, hsh, by omega, by omega, _, rfl, rfl, ?_⟩⟩
      have e : decide (V.str d.shown = V.str d.shown) = true := decide_eq_true rfl
      show Q (.bl (decide (V.str d.shown = V.str d.shown))) _
      rw [e]
      exact q _ (s4.trans s8)
    | false =>
      refine ifF rfl ?_
      refine ⟨_, rfl, _, v, d, rfl, hd.keep s4, hsz, fun H5 s5 => ⟨_, rfl, _, v, d, rfl, (hd.keep s4).keep s5, hsz, fun H6 s6 => ⟨_, rfl, _, v, d, rfl, ((hd.keep s4).keep s5).keep s6, hsz, fun H7 s7 => ⟨big _ (by show (3 : Nat) ≤ 1000; decide), fun p np => ?_⟩⟩⟩⟩
      have s8 := s5.trans (s6.trans (s7.trans (@Same.new p _ (.lst [.bl (isK d), .bl (isDk d), .bl (isCk d)]) np)))
      refine ⟨_, rfl, _, rfl, _, _, _, _, rfl, lst3 upd_same, lst3 (s8 _ _ hD4), b1, b2, b3, ?_⟩
      refine ⟨_, rfl, ifT rfl ⟨_, rfl, _, v, d, rfl, (hd.keep s4).keep s8, hsh, by omega, by omega, _, rfl, rfl, ?_⟩⟩
      have e : decide (V.str d.shown = V.str d.shown) = true := decide_eq_true rfl
      show Q (.bl (decide (V.str d.shown = V.str d.shown))) _
      rw [e]
      exact q _ (s4.trans s8)
end
end J2
namespace KB
open PySem L2 PySem.Spec PyProof.Rows
def spTold : Sp := fun vs H Q _ => ∃ (w : Addr) (v : V) (k : Kd) (c : Int), vs = [.ref w, v] ∧ Dt (Nw w) H v k.d ∧ Kg 100 400 k ∧ Wl H w c ∧ c + 400 < 2 ^ 60 ∧ ∀ (c' : Int) (H' : Hp), Kw w H H' → Wl H' w c' → c' ≤ c + 300 → Q (.bl true) H'
def truthK : Kd := .eith .unit .unit
def spSameT (K : PySem.W.Frag) : Sp := fun vs H Q _ => ∃ (x y : V), vs = [x, y] ∧ Dp K H x truthK.d ∧ Dp K H y truthK.d ∧ Q (.bl true) H
def spRt : Sp := fun vs H Q _ => ∃ (w : Addr) (c : Int), vs = [.ref w] ∧ Wl H w c ∧ c + 8000 < 2 ^ 60 ∧ ∀ H' : Hp, Kw w H H' → Q (.bl true) H'
structure Jk (d : PyData) : Prop where
  sh : d.showable = true
  dp : d.depth ≤ 170
  z : sz d ≤ 4000000
theorem ck6 : ∀ n, n ≤ 6 → Ck n ≤ 254 := by decide
theorem kz6 {k : Kd} {n : Nat} (hn : n ≤ 6) (h : k.dep ≤ max n 1) : k.dep ≤ 131 ∧ k.kz ≤ 400 := by
  have h1 := Kd.kz_dep k
  have h2 := Nat.pow_le_pow_right (n := 2) (by decide) (show k.dep ≤ 6 by omega)
  omega
theorem kg_jk {D Z : Nat} {k : Kd} (h : Kg D Z k) (hD : D ≤ 131) (hZ : Z ≤ 400) : Jk k.d :=
  ⟨h.sd.sh, by have := h.sd.dp; omega, by have := h.sd.ln; have := Nat.mul_le_mul_left 25 hZ; omega⟩
end KB
namespace J2
open PySem PySem.Spec PyProof.Rows L2 KB
theorem odd_jk : ∀ d ∈ oddL, Jk d := fun d hd => by
  have h := List.all_eq_true.mp odd_sh d hd
  (simp only [Bool.and_eq_true, decide_eq_true_eq] at h)
  exact ⟨h.1, by omega, by omega⟩
section
variable {K : PySem.W.Frag} {mg : Str → Option Value} {base : Heap} {P : Program} {w : World}
abbrev nR : List Str := ["_law_well_here", "_law_kinds", "_law_turn", "_law_kind_here", "_law_once", "_law_thing"]
theorem scR : FnScope nR ["_law_well_here"] (defScope (top 48)) := ⟨rfl, rfl, rfl, by decide +kernel, rfl, by decide +kernel, by decide +kernel⟩
theorem ok_rt {f aT : Addr} {fd : FuncData} (F : FnP K "_law_right" (top 48) f fd) (B : Bl K mg) (gTr : mg "TRUTH" = some (.ref aT)) (hTr : ∀ H, Dp K H (.ref aT) truthK.d)
    (hT : Has P w K mg base "_law_tower" ["_law_well_here"] 11 spTow2) (hW : Has P w K mg base "_law_wide" ["_law_well_here"] 12 spWide)
    (hK : Has P w K mg base "_law_kind" ["_law_well_here", "_law_deep", "_law_which"] 10 (fun vs H Q E => ∃ n, n ≤ 6 ∧ spKd2 n vs H Q E)) (hP : Has P w K mg base "_law_pick" ["_law_well_here", "_law_some"] 2 (spPick K))
    (hD : Has P w K mg base "_law_draw" ["_law_well_here", "_law_many"] 1 spDraw) (hI : Has P w K mg base "_law_is_kind" ["_law_thing"] (1 + 170 + 2) (spIk 170)) (hS : Has P w K mg base "_law_spoilt" ["_law_well_here", "_law_thing"] 5 spSpo)
    (hO : Has P w K mg base "_law_odd" ["_law_well_here"] 3 (spOdd oddL)) (hJ : HasG P w K mg base "_law_is_judged" ["_law_thing", "_law_by_name"] 175 spJd) (hL : HasG P w K mg base "_law_is_told" ["_law_well_here", "_law_kind_here"] 180 spTold)
    (hM : HasG P w K mg base "_law_same" nSame 1 (spSameT K)) : FnG P w K mg base 181 f fd ["_law_well_here"] spRt := by
  obtain ⟨fT, fdT, kT, gT, bT, GT⟩ := hT
  obtain ⟨fW, fdW, kW, gW, bW, GW⟩ := hW
  obtain ⟨fK, fdK, kK, gK, bK, GK⟩ := hK
  obtain ⟨fP, fdP, kP, gP, bP, GP⟩ := hP
  obtain ⟨fD, fdD, kD, gD, bD, GD⟩ := hD
  obtain ⟨fI, fdI, kI, gI, bI, GI⟩ := hI
  obtain ⟨fS, fdS, kS, gS, bS, GS⟩ := hS
  obtain ⟨fO, fdO, kO, gO, bO, GO⟩ := hO
  obtain ⟨fJ, fdJ, kJ, gJ, bJ, GJ⟩ := hJ
  obtain ⟨fL, fdL, kL, gL, bL, GL⟩ := hL
  obtain ⟨fM, fdM, kM, gM, bM, GM⟩ := hM
  refine okG F scR (fun vs H Q h => ?_) (fun cdv A outer s H vs Q hgd hr h => ?_)
  · obtain ⟨w, c, rfl, _⟩ := h
    rfl
  · obtain ⟨w, c, rfl, hw, hc, q⟩ := h
    have sc := scR
    have hrT : Room 11 _ := hr.mono (by omega)
    have hrW : Room 12 _ := hr.mono (by omega)
    have hrK : Room 10 _ := hr.mono (by omega)
    have hrP : Room 2 _ := hr.mono (by omega)
    have hrD : Room 1 _ := hr.mono (by omega)
    have hrI : Room (1 + 170 + 2) _ := hr.mono (by omega)
    have hrS : Room 5 _ := hr.mono (by omega)
    have hrO : Room 3 _ := hr.mono (by omega)
    have hrJ : Room 175 _ := hr.mono (by omega)
    have hrL : Room 180 _ := hr
    have hrM : Room 1 _ := hr.mono (by omega)
    refine ⟨_, (pss_cons (ps_set (i := 1) sc.nd rfl (Or.inl rfl) (pe_lst (pa_cons (pe_call GT hrT rfl gT kT bT .nil pass0 (pa_cons (pv 0) pa_nil)) (pa_cons (pe_call GW hrW rfl gW kW bW .nil pass0 (pa_cons (pv 0) pa_nil)) pa_nil)))) (pss_cons (ps_for PassesOwn.never rfl (pi_range1 rfl B.range (pa_cons pe_int pa_nil)) (pg_name (i := 2) sc.nd rfl (Or.inl rfl)) (pss_one (ps_expr (pe_bm PySem.F.plainAttrs_list PySem.F.slot_list_append PySem.F.type_list_append mt_append (pv 1) (pa_cons (pe_call GK hrK rfl gK kK bK .nil pass0 (pa_cons (pv 0) (pa_cons (pe_call GP hrP rfl gP kP bP .nil pass0 (pa_cons (pv 0) (pa_cons (pe_tup (pa_cons pe_int (pa_cons pe_int (pa_cons pe_int pa_nil)))) pa_nil))) (pa_cons (pe_call GP hrP rfl gP kP bP .nil pass0 (pa_cons (pv 0) (pa_cons (pe_tup (pa_cons pe_int (pa_cons pe_int (pa_cons pe_int (pa_cons pe_int (pa_cons pe_int pa_nil)))))) pa_nil))) pa_nil)))) pa_nil))))) (pss_cons (ps_for PassesOwn.never rfl (pi_list (pe_op op_cat (pv 1) (pe_slice sl_list (pv 1) (po_some pe_int) (po_some pe_int)))) (pg_name (i := 3) sc.nd rfl (Or.inl rfl)) (pss_cons (ps_if (pt_not (pt_val (pe_callG GJ hgd hrJ rfl gJ kJ bJ .nil (pa_cons (pv 3) (pa_cons (pe_cmpR op_eq (pe_call GD hrD rfl gD kD bD .nil pass0 (pa_cons (pv 0) (pa_cons pe_int pa_nil))) pe_int (nomark _)) pa_nil))))) (pss_one (ps_ret pe_bl)) pss_nil) (pss_cons (ps_if (PW.pt (pw_and (pt_val (pe_call GI hrI rfl gI kI bI .nil pass0 (pa_cons (pv 3) pa_nil))) (pw_and1 (pt_not (pt_val (pe_callG GL hgd hrL rfl gL kL bL .nil (pa_cons (pv 0) (pa_cons (pv 3) pa_nil)))))))) (pss_one (ps_ret pe_bl)) pss_nil) (pss_cons (ps_set (i := 4) sc.nd rfl (Or.inl rfl) (pe_call GS hrS rfl gS kS bS .nil pass0 (pa_cons (pv 0) (pa_cons (pv 3) pa_nil)))) (pss_one (ps_for PassesOwn.never rfl (pi_list (pe_lst (pa_cons (pv 4) (pa_cons (pe_call GS hrS rfl gS kS bS .nil pass0 (pa_cons (pv 0) (pa_cons (pv 4) pa_nil))) (pa_cons (pe_call GO hrO rfl gO kO bO .nil pass0 (pa_cons (pv 0) pa_nil)) pa_nil))))) (pg_name (i := 5) sc.nd rfl (Or.inl rfl)) (pss_one (ps_if (pt_not (pt_val (pe_callG GJ hgd hrJ rfl gJ kJ bJ .nil (pa_cons (pv 5) (pa_cons (pe_cmpR op_eq (pe_call GD hrD rfl gD kD bD .nil pass0 (pa_cons (pv 0) (pa_cons pe_int pa_nil))) pe_int (nomark _)) pa_nil))))) (pss_one (ps_ret pe_bl)) pss_nil)))))))) (pss_one (ps_ret (pe_callG GM hgd hrM rfl gM kM bM .nil (pa_cons (pe_glob (v := .ref aT) rfl gTr rfl) (pa_cons (pe_tup (pa_cons pe_str (pa_cons (pe_tup (pa_cons pe_str pa_nil)) (pa_cons (pe_tup (pa_cons pe_str pa_nil)) pa_nil)))) pa_nil)))))))), ?_⟩
    have big : ∀ k : Nat, k ≤ 1000 → k ≤ sizeLine := fun k h => Nat.le_of_lt (small1000 h)
    refine ⟨_, rfl, w, c, rfl, hw, by omega, fun v1 k1 c1 H1 d1 g1 kw1 w1 l1 => ⟨_, rfl, w, c1, rfl, w1, by omega, fun v2 k2 c2 H2 d2 g2 kw2 w2 l2 => ⟨big _ (by show (2 : Nat) ≤ 1000; decide), fun L nL => ?_⟩⟩⟩
    have s3 := @Same.new L _ (.lst [v1, v2]) nL
    have wL : w ≠ L := w2.ne nL
    have d1' := d1.kw kw2
    have hL3 : (upd H2 L (.lst [v1, v2])) L = some (.lst [v1, v2]) := upd_same
    have w3 := w2.same s3
    have rows3 : DtA (Ot [L, w]) (upd H2 L (.lst [v1, v2])) [v1, v2] [k1.d, k2.d] := .cons ((d1'.ot.wide nL).keep s3) (.cons ((d2.ot.wide nL).keep s3) .nil)
    have kw3 : Kw w H (upd H2 L (.lst [v1, v2])) := kw1.trans (kw2.trans (Kw.same s3))
    have LH : H L = none := (kw1.trans kw2).free w2.some nL
    have kp3 : Kp [L, w] H (upd H2 L (.lst [v1, v2])) := kw3.kp (by simp)
    generalize upd H2 L (.lst [v1, v2]) = H3 at s3 hL3 w3 rows3 kp3 ⊢
    refine ⟨_, rfl, by decide, by decide, for_range (lo := 0) (n := 4) (fun i σ H4 => ∃ (u2 : Option V) (xs : List V) (ks : List Kd) (c4 : Int), σ = [some (.ref w), some (.ref L), u2, none, none, none] ∧ Kp [L, w] H H4 ∧ H4 L = some (.lst xs) ∧
      DtA (Ot [L, w]) H4 xs (ks.map Kd.d) ∧ (∀ k ∈ ks, Kg 131 400 k) ∧ ks.length = 2 + i ∧ Wl H4 w c4 ∧ c4 ≤ c2 + 260 * (i : Int))
      ⟨none, [v1, v2], [k1, k2], c2, rfl, kp3, hL3, rows3, (fun k hk => by
        rcases List.mem_cons.mp hk with z | z
        · rw [z]; exact g1
        · rw [List.mem_singleton.mp z]; exact g2), rfl, w3, by omega⟩ ?_ ?_⟩
    · -- another kind
      rintro i σ H4 hi ⟨u2, xs, ks, c4, rfl, kp4, hL4, da, good, len, w4, l4⟩
      have la := da.length
      rw [List.length_map, len] at la
      refine ⟨_, rfl, .inl ⟨rfl, _, SqL.of hL4⟩, _, rfl, _, rfl, big _ (by show (3 : Nat) ≤ 1000; decide), fun t nt => ?_⟩
      have s5 := @Same.new t _ (.tup [.int 2, .int 4, .int 6]) nt
      refine ⟨w, t, _, c4, rfl, w4.same s5, by omega, SqT.of upd_same, by decide, by decide, fun m v c6 H6 hm k6 w6 l6 => ?_⟩
      obtain ⟨n, rfl, hn⟩ : ∃ n : Nat, v = V.int (n : Int) ∧ n ≤ 6 := by
        match m, hm with
        | 0, hm => exact ⟨2, (Option.some.inj hm).symm, by decide⟩
        | 1, hm => exact ⟨4, (Option.some.inj hm).symm, by decide⟩
        | 2, hm => exact ⟨6, (Option.some.inj hm).symm, by decide⟩
      refine ⟨_, rfl, big _ (by show (5 : Nat) ≤ 1000; decide), fun t2 nt2 => ?_⟩
      have s7 := @Same.new t2 _ (.tup [.int 0, .int 0, .int 1, .int 2, .int 3]) nt2
      refine ⟨w, t2, _, c6, rfl, w6.same s7, by omega, SqT.of upd_same, by decide, by decide, fun m2 v' c8 H8 hm2 k8 w8 l8 => ?_⟩
      obtain ⟨wh, rfl⟩ : ∃ wh : Int, v' = V.int wh := by
        match m2, hm2 with
        | 0, hm => exact ⟨_, (Option.some.inj hm).symm⟩
        | 1, hm => exact ⟨_, (Option.some.inj hm).symm⟩
        | 2, hm => exact ⟨_, (Option.some.inj hm).symm⟩
        | 3, hm => exact ⟨_, (Option.some.inj hm).symm⟩
        | 4, hm => exact ⟨_, (Option.some.inj hm).symm⟩
      have cn := ck6 n hn
      refine ⟨n, hn, w, wh, c8, rfl, w8, by omega, fun v9 k9 c9 H9 d9 p9 _ _ o9 kw9 w9 l9 => ?_⟩
      have k49 : Kw w H4 H9 := (Kw.same s5).trans (k6.trans ((Kw.same s7).trans (k8.trans kw9)))
      have hL9 := k49 _ _ wL.symm hL4
      refine ⟨L, xs, _, rfl, rfl, hL9, Nat.lt_of_le_of_lt (by omega : _ ≤ 10) (by decide), ?_⟩
      have kqA : Kp [L, w] H4 H9 := k49.kp (by simp)
      have kqB : Kp [L, w] H9 (upd H9 L (.lst (xs ++ [v9]))) := Kp.put (by simp)
      have d9' : Dt (Ot [L, w]) H9 v9 k9.d := (kd_offN hL9 d9).move fun a o f e => ⟨fun z => by
        (rcases (List.mem_cons.mp z) with z | z)
        · exact f.2 z
        · exact f.1 (List.mem_singleton.mp z), e⟩
      obtain ⟨z1, z2⟩ := kz6 hn p9
      refine ⟨_, xs ++ [v9], ks ++ [k9], c9, rfl, kp4.trans (kqA.trans kqB), upd_same, ?_, ?_, by rw [List.length_append, len]; rfl, ?_, by omega⟩
      · rw [List.map_append]
        exact ((da.kp kqA).kp kqB).append (.cons (d9'.kp kqB) .nil)
      · intro k hk
        rcases List.mem_append.mp hk with z | z
        · exact good k z
        · (rw [List.mem_singleton.mp z])
          exact ⟨o9, z1, z2⟩
      · obtain ⟨n', m', z', e', r'⟩ := w9
        exact ⟨n', m', z', by rw [upd_ne wL]; exact e', r'⟩
    · -- each of them, and one once more
      rintro σ H4 ⟨u2, xs, ks, c4, rfl, kp4, hL4, da, good, len, w4, l4⟩
      have la := da.length
      rw [List.length_map, len] at la
      have kw4 : Kw w H H4 := (Kp.thin kp4 LH).kw
      have da' : DtA (Nw w) H4 xs (ks.map Kd.d) := Dt.nwt da (by simp)
      refine ⟨_, rfl, _, rfl, _, rfl, _, rfl, L, _, rfl, SqL.of hL4, fun p np => ?_⟩
      have s5 := @Same.new p _ (.lst (cutV xs (some 2) (some 3))) np
      have cl := cutV_length xs (some 2) (some 3)
      refine ⟨L, p, xs, _, rfl, rfl, s5 _ _ hL4, upd_same, Nat.le_trans (by omega : _ ≤ 100) (by decide), fun p2 np2 => ?_⟩
      have s6 := s5.trans (@Same.new p2 _ (.lst (xs ++ cutV xs (some 2) (some 3))) np2)
      have w6 := w4.same s6
      have w5 := w4.same s5
      have wp2 : w ≠ p2 := w5.ne np2
      obtain ⟨ds, rows, gds⟩ : ∃ es : List Kd, DtA (Nw w) H4 (xs ++ cutV xs (some 2) (some 3)) (es.map Kd.d) ∧ ∀ k ∈ es, Kg 131 400 k := by
        refine ⟨ks ++ (ks.drop (HT.sIx xs.length 0 (some 2))).take (HT.sIx xs.length xs.length (some 3) - HT.sIx xs.length 0 (some 2)), ?_, fun k hk => ?_⟩
        · rw [List.map_append, List.map_take, List.map_drop]
          exact da'.append ((da'.drop _).take _)
        · rcases List.mem_append.mp hk with z | z
          · exact good k z
          · exact good k (List.mem_of_mem_drop (List.mem_of_mem_take z))
      have h2 : (upd (upd H4 p (.lst (cutV xs (some 2) (some 3)))) p2 (.lst (xs ++ cutV xs (some 2) (some 3)))) p2 = some (.lst (xs ++ cutV xs (some 2) (some 3))) := upd_same
      have zl : (xs ++ cutV xs (some 2) (some 3)).length ≤ 12 := by rw [List.length_append]; omega
      have rows6 := rows.keep s6
      have kw6 : Kw w H _ := kw4.trans (Kw.same s6)
      generalize upd (upd H4 p (.lst (cutV xs (some 2) (some 3)))) p2 (.lst (xs ++ cutV xs (some 2) (some 3))) = H6 at s6 w6 h2 rows6 kw6 ⊢
      generalize xs ++ cutV xs (some 2) (some 3) = zs at zl rows rows6 h2 ⊢
      refine ⟨p2, rfl, ⟨_, SqL.of h2⟩, for_list (K := K) (a := p2) (xs := zs) (fun i σ H7 => ∃ (u2 u3 u4 u5 : Option V) (c7 : Int), σ = [some (.ref w), some (.ref L), u2, u3, u4, u5] ∧ Kw w H6 H7 ∧ Wl H7 w c7 ∧ c7 ≤ c4 + 340 * (i : Int)) ⟨_, _, _, _, c4, rfl, Kw.refl w H6, w6, by omega⟩
        (fun i σ H7 _ hP => by
          obtain ⟨_, _, _, _, _, _, k7, _⟩ := hP
          exact SqL.of (k7 _ _ wp2.symm h2)) ?_ ?_⟩
      · rintro i x σ H7 hi ⟨u2, u3, u4, u5, c7, rfl, k7, w7, l7⟩
        have il : i < zs.length := (List.getElem?_eq_some_iff.mp hi).1
        obtain ⟨dd, hdd, dx⟩ := rows6.get hi
        obtain ⟨k, hk, rfl⟩ : ∃ k, k ∈ ds ∧ k.d = dd := by
          rw [List.getElem?_map] at hdd
          cases e : ds[i]? with
          | none => rw [e] at hdd; cases hdd
          | some k => rw [e] at hdd; exact ⟨k, List.mem_of_getElem? e, Option.some.inj hdd⟩
        have kg := gds k hk
        have jk := kg_jk kg (Nat.le_refl _) (Nat.le_refl _)
        have dx7 := dx.kw k7
        have sd := kg.sd
        refine ⟨_, rfl, _, rfl, w, 2, c7, rfl, w7, by omega, by decide, by decide, fun r c8 H8 r0 r1 k8 w8 l8 => ⟨rfl, ?_⟩⟩
        have dx8 := dx7.kw k8
        refine ⟨_, x, _, k.d, rfl, dx8, jk.sh, jk.dp, jk.z, fun H9 s9 => ⟨_, rfl, ifF rfl ?_⟩⟩
        have dx9 := dx8.keep s9
        have w9 := w8.same s9
        have k79 : Kw w H7 H9 := k8.trans (Kw.same s9)
        -- told
        refine ⟨_, rfl, _, x, k.d, rfl, dx9, jk.dp, fun HA sA => ⟨_, rfl, ?_⟩⟩
        have dxA := dx9.keep sA
        have wA := w9.same sA
        have k7A := k79.trans (Kw.same sA)
        cases ek : isK k.d with
        | false =>
          refine ifF rfl (ifF rfl ?_)
          obtain ⟨cB, HB, eB, eH, k7B, wB, lB, dxB⟩ : ∃ (cB : Int) (HB : Hp), cB = c8 ∧ HB = HA ∧ Kw w H7 HB ∧ Wl HB w cB ∧ cB ≤ c8 + 300 ∧ Dt (Nw w) HB x k.d := ⟨c8, HA, rfl, rfl, k7A, wA, by omega, dxA⟩
          rw [← eH]
          -- bent, bent twice, any thing
          have jz := sd.ln
          refine ⟨_, rfl, _, rfl, w, x, k.d, bg, cB, rfl, dxB, jk.sh, jk.z, ib_kd k, Nat.le_refl _, Nat.le_add_right _ _, wB, by omega, fun y1 e1 cC HC dC bC kC wC lC => ?_⟩
          have z1 := bC.ln
          have p1 := bC.dp
          have kdp := sd.dp
          refine ⟨_, rfl, _, rfl, _, rfl, w, y1, e1, bg + 1, cC, rfl, dC, bC.sh, by omega, bC.ib, by omega, by omega, wC, by omega, fun y2 e2 cD HD dD bD kD wD lD => ?_⟩
          have z2 := bD.ln
          have p2 := bD.dp
          refine ⟨_, rfl, w, cD, rfl, wD, by omega, fun j y3 e3 cE HE he dE kE wE lE => ⟨big _ (by show (3 : Nat) ≤ 1000; decide), fun M nM => ?_⟩⟩
          have dE' : Dt (Nw w) HE y3 e3 := dE.nw wD.some
          have sF := @Same.new M _ (.lst [y1, y2, y3]) nM
          have wM : w ≠ M := wE.ne nM
          have wF := wE.same sF
          have hM : (upd HE M (.lst [y1, y2, y3])) M = some (.lst [y1, y2, y3]) := upd_same
          have rowsF : DtA (Nw w) (upd HE M (.lst [y1, y2, y3])) [y1, y2, y3] [e1, e2, e3] := DtA.keep (.cons ((dC.kw kD).kw kE) (.cons (dD.kw kE) (.cons dE' .nil))) sF
          have j1 : Jk e1 := ⟨bC.sh, by omega, by omega⟩
          have j2 : Jk e2 := ⟨bD.sh, by omega, by omega⟩
          have j3 : Jk e3 := odd_jk e3 (List.mem_of_getElem? he)
          have k7F : Kw w H7 (upd HE M (.lst [y1, y2, y3])) := k7B.trans (kC.trans (kD.trans (kE.trans (Kw.same sF))))
          generalize upd HE M (.lst [y1, y2, y3]) = HF at wF hM rowsF k7F ⊢
          refine ⟨M, rfl, ⟨_, SqL.of hM⟩, for_list (K := K) (a := M) (xs := [y1, y2, y3]) (fun j σ HG => ∃ (u5 : Option V) (cG : Int), σ = [some (.ref w), some (.ref L), u2, some x, some y1, u5] ∧ Kw w HF HG ∧ Wl HG w cG ∧ cG ≤ cE + (j : Int)) ⟨_, cE, rfl, Kw.refl w HF, wF, by omega⟩
            (fun j σ HG _ hP => by
              obtain ⟨_, _, _, kG, _⟩ := hP
              exact SqL.of (kG _ _ wM.symm hM)) ?_ ?_⟩
          · rintro j y σ HG hj ⟨u5, cG, rfl, kG, wG, lG⟩
            have jl : j < 3 := (List.getElem?_eq_some_iff.mp hj).1
            obtain ⟨de, hde, dye⟩ := rowsF.get hj
            have jd : Jk de := by
              rcases List.mem_cons.mp (List.mem_of_getElem? hde) with z | z
              · rw [z]; exact j1
              · (rcases (List.mem_cons.mp z) with z | z)
                · rw [z]; exact j2
                · rw [List.mem_singleton.mp z]; exact j3
            refine ⟨_, rfl, _, rfl, w, 2, cG, rfl, wG, by omega, by decide, by decide, fun r2 cI HI r20 r21 kI2 wI lI => ⟨rfl, ?_⟩⟩
            refine ⟨_, y, _, de, rfl, (dye.kw kG).kw kI2, jd.sh, jd.dp, jd.z, fun HJ sJ => ⟨_, rfl, ifF rfl ?_⟩⟩
            exact ⟨_, cI, rfl, kG.trans (kI2.trans (Kw.same sJ)), wI.same sJ, by omega⟩
          · rintro σ HG ⟨u5, cG, rfl, kG, wG, lG⟩
            have lG' : cG ≤ cE + 3 := lG
            exact ⟨u2, _, _, u5, cG, rfl, k7.trans (k7F.trans kG), wG, by omega⟩
        | true =>
          have kd100 : Kg 100 400 k := by
            obtain ⟨k', e', o', p'⟩ := isK_ok ek
            have hdp := Kd.depth k
            have hdp' := Kd.depth k'
            rw [e'] at hdp'
            exact ⟨kg.ov, by omega, kg.kz⟩
          refine ifT rfl ⟨_, rfl, _, rfl, w, x, k, c8, rfl, dxA, kd100, wA, by omega, fun cB HB kB wB lB => ⟨_, rfl, ifF rfl ?_⟩⟩
          have k7B := k7A.trans kB
          have dxB := dxA.kw kB
          -- bent, bent twice, any thing
          have jz := sd.ln
          refine ⟨_, rfl, _, rfl, w, x, k.d, bg, cB, rfl, dxB, jk.sh, jk.z, ib_kd k, Nat.le_refl _, Nat.le_add_right _ _, wB, by omega, fun y1 e1 cC HC dC bC kC wC lC => ?_⟩
          have z1 := bC.ln
          have p1 := bC.dp
          have kdp := sd.dp
          refine ⟨_, rfl, _, rfl, _, rfl, w, y1, e1, bg + 1, cC, rfl, dC, bC.sh, by omega, bC.ib, by omega, by omega, wC, by omega, fun y2 e2 cD HD dD bD kD wD lD => ?_⟩
          have z2 := bD.ln
          have p2 := bD.dp
          refine ⟨_, rfl, w, cD, rfl, wD, by omega, fun j y3 e3 cE HE he dE kE wE lE => ⟨big _ (by show (3 : Nat) ≤ 1000; decide), fun M nM => ?_⟩⟩
          have dE' : Dt (Nw w) HE y3 e3 := dE.nw wD.some
          have sF := @Same.new M _ (.lst [y1, y2, y3]) nM
          have wM : w ≠ M := wE.ne nM
          have wF := wE.same sF
          have hM : (upd HE M (.lst [y1, y2, y3])) M = some (.lst [y1, y2, y3]) := upd_same
          have rowsF : DtA (Nw w) (upd HE M (.lst [y1, y2, y3])) [y1, y2, y3] [e1, e2, e3] := DtA.keep (.cons ((dC.kw kD).kw kE) (.cons (dD.kw kE) (.cons dE' .nil))) sF
          have j1 : Jk e1 := ⟨bC.sh, by omega, by omega⟩
          have j2 : Jk e2 := ⟨bD.sh, by omega, by omega⟩
          have j3 : Jk e3 := odd_jk e3 (List.mem_of_getElem? he)
          have k7F : Kw w H7 (upd HE M (.lst [y1, y2, y3])) := k7B.trans (kC.trans (kD.trans (kE.trans (Kw.same sF))))
          generalize upd HE M (.lst [y1, y2, y3]) = HF at wF hM rowsF k7F ⊢
          refine ⟨M, rfl, ⟨_, SqL.of hM⟩, for_list (K := K) (a := M) (xs := [y1, y2, y3]) (fun j σ HG => ∃ (u5 : Option V) (cG : Int), σ = [some (.ref w), some (.ref L), u2, some x, some y1, u5] ∧ Kw w HF HG ∧ Wl HG w cG ∧ cG ≤ cE + (j : Int)) ⟨_, cE, rfl, Kw.refl w HF, wF, by omega⟩
            (fun j σ HG _ hP => by
              obtain ⟨_, _, _, kG, _⟩ := hP
              exact SqL.of (kG _ _ wM.symm hM)) ?_ ?_⟩
          · rintro j y σ HG hj ⟨u5, cG, rfl, kG, wG, lG⟩
            have jl : j < 3 := (List.getElem?_eq_some_iff.mp hj).1
            obtain ⟨de, hde, dye⟩ := rowsF.get hj
            have jd : Jk de := by
              rcases List.mem_cons.mp (List.mem_of_getElem? hde) with z | z
              · rw [z]; exact j1
              · (rcases (List.mem_cons.mp z) with z | z)
                · rw [z]; exact j2
                · rw [List.mem_singleton.mp z]; exact j3
            refine ⟨_, rfl, _, rfl, w, 2, cG, rfl, wG, by omega, by decide, by decide, fun r2 cI HI r20 r21 kI2 wI lI => ⟨rfl, ?_⟩⟩
            refine ⟨_, y, _, de, rfl, (dye.kw kG).kw kI2, jd.sh, jd.dp, jd.z, fun HJ sJ => ⟨_, rfl, ifF rfl ?_⟩⟩
            exact ⟨_, cI, rfl, kG.trans (kI2.trans (Kw.same sJ)), wI.same sJ, by omega⟩
          · rintro σ HG ⟨u5, cG, rfl, kG, wG, lG⟩
            have lG' : cG ≤ cE + 3 := lG
            exact ⟨u2, _, _, u5, cG, rfl, k7.trans (k7F.trans kG), wG, by omega⟩
      · rintro σ H7 ⟨u2, u3, u4, u5, c7, rfl, k7, w7, l7⟩
        refine ⟨big _ (by show (1 : Nat) ≤ 1000; decide), fun q1 nq1 => ⟨big _ (by show (1 : Nat) ≤ 1000; decide), fun q2 nq2 => ⟨big _ (by show (3 : Nat) ≤ 1000; decide), fun q3 nq3 => ?_⟩⟩⟩
        have t1 := @Same.new q1 _ (.tup [.str "unit"]) nq1
        have t2 := @Same.new q2 _ (.tup [.str "unit"]) nq2
        have t3 := @Same.new q3 _ (.tup [.str "either", .ref q1, .ref q2]) nq3
        have h1 := t3 _ _ (t2 _ _ (show (upd H7 q1 (.tup [.str "unit"])) q1 = some (.tup [.str "unit"]) from upd_same))
        have h2q := t3 _ _ (show (upd (upd H7 q1 (.tup [.str "unit"])) q2 (.tup [.str "unit"])) q2 = some (.tup [.str "unit"]) from upd_same)
        refine ⟨_, _, rfl, hTr _, .tup (SqT.of upd_same) (.cons (.str _) (.cons (.tup (SqT.of h1) (.cons (.str _) .nil)) (.cons (.tup (SqT.of h2q) (.cons (.str _) .nil)) .nil))), ?_⟩
        exact q _ (kw6.trans (k7.trans (Kw.same (t1.trans (t2.trans t3)))))
end
end J2
namespace KB
open PySem L2 PySem.Spec PyProof.Rows
theorem kd_reads {X : Cx} {pins : List (Addr × Obj)} {σ : L2.St} {H : Hp} {s : Shared} (I : Inv X pins σ H s) : ∀ (k : Kd) {v : V} {u : Value}, Dp X.K H v k.d → RelV v u → Reads s.heap u k.d []
  | .num, v, u, h, r => by
    cases h with
    | tup hs ha =>
      cases r
      (obtain ⟨its, rv, ⟨o, ho, hc, n, hd⟩, _⟩ := I.tuple hs)
      cases ha with
      | cons h1 h2 =>
        cases h2
        cases h1
        cases rv with
        | cons r1 r2 =>
          cases r2
          obtain ⟨t, rfl⟩ := r1
          exact Reads.tuple ho hc hd (ReadsAll.cons (Reads.str _ t) ReadsAll.nil)
  | .unit, v, u, h, r => by
    cases h with
    | tup hs ha =>
      cases r
      (obtain ⟨its, rv, ⟨o, ho, hc, n, hd⟩, _⟩ := I.tuple hs)
      cases ha with
      | cons h1 h2 =>
        cases h2
        cases h1
        cases rv with
        | cons r1 r2 =>
          cases r2
          obtain ⟨t, rfl⟩ := r1
          exact Reads.tuple ho hc hd (ReadsAll.cons (Reads.str _ t) ReadsAll.nil)
  | .var x, v, u, h, r => by
    cases h with
    | tup hs ha =>
      cases r
      (obtain ⟨its, rv, ⟨o, ho, hc, n, hd⟩, _⟩ := I.tuple hs)
      cases ha with
      | cons h1 h2 => cases h2 with
        | cons h3 h4 =>
          cases h4
          cases h1
          cases h3
          cases rv with
          | cons r1 r2 => cases r2 with
            | cons r3 r4 =>
              cases r4
              obtain ⟨t, rfl⟩ := r1
              obtain ⟨t', rfl⟩ := r3
              exact Reads.tuple ho hc hd (ReadsAll.cons (Reads.str _ t) (ReadsAll.cons (Reads.str _ t') ReadsAll.nil))
  | .lst a, v, u, h, r => by
    cases h with
    | tup hs ha =>
      cases r
      (obtain ⟨its, rv, ⟨o, ho, hc, n, hd⟩, _⟩ := I.tuple hs)
      cases ha with
      | cons h1 h2 => cases h2 with
        | cons h3 h4 =>
          cases h4
          cases h1
          cases rv with
          | cons r1 r2 => cases r2 with
            | cons r3 r4 =>
              cases r4
              obtain ⟨t, rfl⟩ := r1
              exact Reads.tuple ho hc hd (ReadsAll.cons (Reads.str _ t) (ReadsAll.cons (kd_reads I a h3 r3) ReadsAll.nil))
  | .pair a b, v, u, h, r => two I (kd_reads I a) (kd_reads I b) h r
  | .eith a b, v, u, h, r => two I (kd_reads I a) (kd_reads I b) h r
  | .fn a b, v, u, h, r => two I (kd_reads I a) (kd_reads I b) h r
where
  two {X : Cx} {pins : List (Addr × Obj)} {σ : L2.St} {H : Hp} {s : Shared} (I : Inv X pins σ H s) {a b : Kd} {x : Str} {v : V} {u : Value} (ka : ∀ {v : V} {u : Value}, Dp X.K H v a.d → RelV v u → Reads s.heap u a.d []) (kb : ∀ {v : V} {u : Value}, Dp X.K H v b.d → RelV v u → Reads s.heap u b.d [])
      (h : Dp X.K H v (.tuple [.str x, a.d, b.d])) (r : RelV v u) : Reads s.heap u (.tuple [.str x, a.d, b.d]) [] := by
    cases h with
    | tup hs ha =>
      cases r
      (obtain ⟨its, rv, ⟨o, ho, hc, n, hd⟩, _⟩ := I.tuple hs)
      cases ha with
      | cons h1 h2 => cases h2 with
        | cons h3 h4 => cases h4 with
          | cons h5 h6 =>
            cases h6
            cases h1
            cases rv with
            | cons r1 r2 => cases r2 with
              | cons r3 r4 => cases r4 with
                | cons r5 r6 =>
                  cases r6
                  obtain ⟨t, rfl⟩ := r1
                  exact Reads.tuple ho hc hd (ReadsAll.cons (Reads.str _ t) (ReadsAll.cons (ka h3 r3) (ReadsAll.cons (kb h5 r5) ReadsAll.nil)))
def rReprT (K : PySem.W.Frag) : List V → Hp → VK → Prop := fun xs H Q => ∃ (v : V) (k : Kd), xs = [v] ∧ Dp K H v k.d ∧ k.okv = true ∧ k.dep ≤ 100 ∧ k.kz ≤ 1000 ∧ Q (.str k.d.shown) H
theorem call_reprT {X : Cx} {k : Nat} (hg : X.A.guards = some []) (hr : Room k X.A) : CallR X (.builtin "repr") (rReprT X.K) := by
  (intro pins s σ H xs us Q I r h)
  obtain ⟨v, kd, rfl, hd, ov, dp, kz, q⟩ := h
  have sh := kd_show kd ov
  have ln : kd.d.shown.length ≤ sizeLine := Nat.le_trans (sz_shown _) (Nat.le_trans (sz_kz kd ov) (Nat.le_trans (Nat.mul_le_mul_left 25 kz) (by decide)))
  (obtain ⟨u, rfl, ru⟩ := vals1 r)
  have rd := kd_reads I kd hd ru
  have room := hr.un
  have de := Kd.depth kd
  obtain ⟨ds, ed⟩ : ∃ ds, kd.d = .tuple ds := by cases kd <;> exact ⟨_, rfl⟩
  rw [ed] at rd sh ln q de
  cases rd with
  | tuple h1 h2 h3 h4 => exact repr_of_reads' (.tuple h1 h2 h3 h4) sh (fun _ => by simp) hg (by omega) (fun _ _ e => e) (fun h' u tk k => ⟨.str _, H, I.kept k, ⟨_, rfl⟩, q⟩) ln
end KB
namespace J2
open PySem PySem.Spec PyProof.Rows L2 KB
section
variable {K : PySem.W.Frag} {mg : Str → Option Value} {base : Heap} {P : Program} {w : World}
theorem ok_sameT {f : Addr} {fd : FuncData} (F : FnP K "_law_same" (top 29) f fd) (T : Bl K mg) : FnG P w K mg base 1 f fd nSame (spSameT K) := by
  refine okG F scSame (fun vs H Q h => ?_) (fun cdv A outer s H vs Q hgd hr h => ?_)
  · obtain ⟨x, y, rfl, _⟩ := h
    rfl
  · obtain ⟨x, y, rfl, dx, dy, q⟩ := h
    have sc := scSame
    refine ⟨_, (pss_one (ps_ret (pe_cmpR op_eq (pe_callB (call_reprT hgd hr) (by rfl) T.repr (by decide +kernel) (pa_cons (pv 0) pa_nil)) (pe_callB (call_reprT hgd hr) (by rfl) T.repr (by decide +kernel) (pa_cons (pv 1) pa_nil)) (nomark _)))), ?_⟩
    refine ⟨_, rfl, x, truthK, rfl, dx, rfl, by decide, by decide, _, rfl, y, truthK, rfl, dy, rfl, by decide, by decide, rfl, ?_⟩
    have e : decide (V.str truthK.d.shown = V.str truthK.d.shown) = true := decide_eq_true rfl
    show Q (.bl (decide (V.str truthK.d.shown = V.str truthK.d.shown))) H
    rw [e]
    exact q
end
end J2
namespace KB
open PySem L2 PySem.Spec PyProof.Rows
def TxSet (P : Program) (w : World) (h : Heap) (a : Addr) (l : List Str) : Prop :=
  ∃ D : Froz.SD, h.get? a = some (Froz.sObj "set" D) ∧ Froz.TxOk P w D l ∧ l.Nodup ∧ l.length ≤ 50 ∧ Ris D.2.2.place.toList ∧ (w.params.followText "set-order" = true ∨ D.2.2.led = true)
section
variable {P : Program} {w : World} {h h' : Heap} {a : Addr} {l : List Str}
theorem TxSet.at (R : TxSet P w h a l) (k : ∀ o, h.get? a = some o → h'.get? a = some o) : TxSet P w h' a l := by
  obtain ⟨D, ho, r⟩ := R
  exact ⟨D, k _ ho, r⟩
theorem TxSet.ob (R : TxSet P w h a l) : ∃ o, h.get? a = some o := by
  obtain ⟨D, ho, _⟩ := R
  exact ⟨_, ho⟩
theorem add_walk {D : Froz.SD} {x : Int} {v : Value} (r : Ris D.2.2.place.toList) : Ris (Froz.addTx x v D).2.2.place.toList ∧ (D.2.2.led = true → (Froz.addTx x v D).2.2.led = true) := by
  obtain ⟨es, ep, t⟩ := D
  have r1 := layNew_ris t es x v r
  have l1 := layNew_led t es x v
  unfold Froz.addTx
  dsimp only
  generalize layNew t es x v = Z at r1 l1 ⊢
  obtain ⟨es1, t1, wd, gv⟩ := Z
  dsimp only at r1 l1 ⊢
  have two : ∀ t2 : SetTable, t2.place = t1.place → t2.led = t1.led → Ris (Froz.tailTx ep es1 t2 wd).2.2.place.toList ∧ (t.led = true → (Froz.tailTx ep es1 t2 wd).2.2.led = true) := fun t2 e1 e2 => by
    unfold Froz.tailTx
    split
    · exact ⟨relayAll_ris t2 es1 _, fun z => by
        show (relayAll t2 es1 _).2.1.led = true
        rw [relayAll_led, e2, l1]; exact z⟩
    · exact ⟨by show Ris t2.place.toList; rw [e1]; exact r1, fun z => by show t2.led = true; rw [e2, l1]; exact z⟩
  split
  · exact two _ rfl rfl
  · exact two _ rfl rfl
end
section
variable {P : Program} {w : World} {A : Around} {E : Value → Shared → Prop} {s : Shared} {a : Addr} {l : List Str}
theorem again_x {D : Froz.SD} {k : Str} {u : Tok} {Q : Bool → Shared → Prop} (ho : s.heap.get? a = some (Froz.sObj "set" D)) (F : Froz.TxOk P w D l) (hk : k ∈ l) (hb : l.length < scanBound) (q : Q false s) :
    wpAny (model P w) A (setAddHashed a (.str k u) (hashStr w k)) Q E s := by
  obtain ⟨es, ep, t⟩ := D
  have fz : es.size = l.length := F.sz
  have el : ElemsOf (strKind P w) es.toList := F.el
  obtain ⟨e, he, ke⟩ := (F.mem k).mp hk
  (unfold setAddHashed setAddHashedIn)
  refine wpAny_holding (wpAny_bind (wpAny_setState_of (es := es) (ep := ep) (t := t) ho rfl F.fit ?_))
  dsimp only
  rw [byScan_of (x := .str k u) rfl (by rw [fz]; exact hb) el]
  simp only [if_true]
  unfold setAddByScan
  refine wpAny_bind (wpAny_bind (wpAny_rule (wpAny_bind (wpAny_setScan_of (knd := strKind P w) (k := k) (Froz.is_str k u) ho rfl F.fit el ?_))))
  cases fi : es.toList.findIdx? (fun e => (strKind P w).is k e.2) with
  | none => exact absurd ke (by rw [List.findIdx?_eq_none_iff.mp fi e he]; exact Bool.false_ne_true)
  | some j =>
    dsimp only
    exact wpAny_pure (wpAny_pure q)
theorem txset_add {k : Str} {u : Tok} {Q : Value → Shared → Prop} (R : TxSet P w s.heap a l) (room : l.length < 50)
    (q : ∀ h', Heap.SameBut a s.heap h' → TxSet P w h' a (if k ∈ l then l else k :: l) → Q .none { s with heap := h', toks := s.toks + 1 }) :
    wpAny (model P w) A (call (.builtin "set.add") [.ref a, .str k u]) Q E s := by
  obtain ⟨D, ho, tx, nd, lz, ri, le⟩ := R
  have ty : s.TypeIs (.ref a) "set" := ⟨_, ho, rfl⟩
  have big : 100 ≤ scanBound := by decide
  refine wpAny_call_entry F.slot_set_add ty F.entry_set_add ?_ (F.args_set_add_2 _ _)
  unfold Builtin.«set.add» Builtin.Frozenset.oneOther Builtin.Frozenset.addrOf setAdd
  (simp only [List.isEmpty_nil, bind_assoc])
  refine wpAny_bind (wpAny_pure (wpAny_bind (wpAny_pure (wpAny_bind (wpAny_holding (wpAny_bind ((strKind P w).pyHash (Froz.is_str k u) ?_)))))))
  by_cases hk : k ∈ l
  · refine again_x (s := { s with toks := s.toks + 1 }) ho tx hk (by omega) ?_
    (show wpAny _ _ (ret Value.none) _ _ _)
    (refine wpAny_pure ⟨_, rfl, ?_⟩)
    have := q s.heap (Heap.SameBut.refl a s.heap) (by rw [if_pos hk]; exact ⟨D, ho, tx, nd, lz, ri, le⟩)
    exact this
  · refine Froz.add_x (s := { s with toks := s.toks + 1 }) ho tx hk (by omega) ?_
    (show wpAny _ _ (ret Value.none) _ _ _)
    refine wpAny_pure ⟨_, rfl, q _ (Heap.SameBut.update s.heap a _) ?_⟩
    obtain ⟨w1, w2⟩ := add_walk (x := hashStr w k) (v := .str k u) ri
    rw [if_neg hk]
    exact ⟨_, Froz.get_upd _ ho rfl, Froz.add_ok u tx, List.nodup_cons.mpr ⟨hk, nd⟩, by rw [List.length_cons]; omega, w1, le.imp id w2⟩
theorem txset_new {h : Heap} : TxSet P w (h.push { cls := .type "set", dict := none, data := .set #[] 0 (.fresh 0 0 (!w.params.followText "set-order")) }) h.objs.size [] :=
  ⟨(#[], 0, .fresh 0 0 (!w.params.followText "set-order")), Heap.get?_push_size _ rfl, Froz.TxOk.nil (by rfl), List.nodup_nil, by simp, List.Pairwise.nil, by
    (show _ ∨ (!w.params.followText "set-order") = true)
    cases w.params.followText "set-order" with
    | true => exact .inl rfl
    | false => exact .inr rfl⟩
theorem strs_of : ∀ {vs : List Value}, (∀ v ∈ vs, ∃ k t, v = Value.str k t) → ∃ ss, StrsAre vs ss
  | [], _ => ⟨[], .nil⟩
  | v :: vs, h => by
    obtain ⟨k, t, rfl⟩ := h v List.mem_cons_self
    obtain ⟨ss, r⟩ := strs_of fun x hx => h x (List.mem_cons_of_mem _ hx)
    exact ⟨k :: ss, .cons k t r⟩
theorem strs_mem : ∀ {vs : List Value} {ss : List Str}, StrsAre vs ss → ∀ k, k ∈ ss ↔ ∃ t, Value.str k t ∈ vs
  | _, _, .nil, k => by simp
  | _, _, .cons x t r, k => by
    rw [List.mem_cons, strs_mem r k]
    constructor
    · rintro (rfl | ⟨t', h⟩)
      · exact ⟨t, List.mem_cons_self⟩
      · exact ⟨t', List.mem_cons_of_mem _ h⟩
    · rintro ⟨t', h⟩
      (rcases List.mem_cons.mp h with e | h)
      · injection e with e1 _
        exact .inl e1
      · exact .inr ⟨t', h⟩
theorem txset_sorted {Q : Value → Shared → Prop} (R : TxSet P w s.heap a l) (hh : A.handled = none)
    (q : ∀ s' p (out : Array Value) (c : Nat) (ss : List Str), (∀ b o, s.heap.get? b = some o → s'.heap.get? b = some o) → s'.gens = s.gens → s'.os = s.os → s.heap.objs.size ≤ p →
      s'.heap.get? p = some (seqObj "list" out c) → StrsAre out.toList ss → sortedS ss = true → (∀ k, k ∈ ss ↔ k ∈ l) → ss.length = l.length → Q (.ref p) s') : wpAny (model P w) A (call (.builtin "sorted") [.ref a]) Q E s := by
  obtain ⟨⟨es, ep, t⟩, ho, tx, nd, lz, ri, le⟩ := R
  have big : 100 ≤ scanBound := by decide
  have fz : es.size = l.length := tx.sz
  (refine Calls.call_function_entry kind_sorted plain_sorted entry_sorted (args_sorted1 _) ?_)
  unfold Builtin.«sorted»
  refine wpAny_bind (m := checkCount "sorted" 1 1 _) (wpAny_pure (wpAny_bind (collect_set (A := A.in1) hh ⟨_, ho, rfl, rfl⟩ tx.fit (by show es.size < scanBound; omega) ri le fun s1 vs k1 hz g1 o1 pm => ?_)))
  have lv : vs.length = l.length := by rw [pm.length_eq, List.length_map, Array.length_toList]; exact fz
  obtain ⟨ss0, rs⟩ := strs_of (vs := vs) fun v hv => by
    obtain ⟨e, he, rfl⟩ := List.mem_map.mp (pm.mem_iff.mp hv)
    obtain ⟨⟨k, hk, _⟩, _⟩ := tx.el e he
    obtain ⟨t, ht⟩ := Value.isStrOf_shape hk
    exact ⟨k, t, ht⟩
  have mem0 : ∀ k, k ∈ ss0 ↔ k ∈ l := fun k => by
    rw [strs_mem rs k, tx.mem k]
    constructor
    · rintro ⟨t, ht⟩
      obtain ⟨e, he, ee⟩ := List.mem_map.mp (pm.mem_iff.mp ht)
      exact ⟨e, he, by rw [show e.2 = Value.str k t from ee]; exact Froz.is_str k t⟩
    · rintro ⟨e, he, hk⟩
      obtain ⟨t, ht⟩ := Value.isStrOf_shape hk
      exact ⟨t, pm.mem_iff.mpr (List.mem_map.mpr ⟨e, he, ht⟩)⟩
  refine wpAny_bind (wpAny_newList ?_ (by rw [lv, sizeLine_eq]; omega))
  (have hoL : (s1.heap.push (seqObj "list" vs.toArray 0)).get? s1.heap.objs.size = some (seqObj "list" vs.toArray 0) := Heap.get?_push_size _ rfl)
  refine wpAny_bind (wpAny_holding (wpAny_call_entry slot_list_sort ⟨_, hoL, rfl⟩ entry_list_sort (list_sort_treeK strKind_oneLt hoL rs.keysOf (fun v₁ v₂ rest e => keyKind_strs (by rw [← e]; exact rs)) (by rw [lv]; omega) fun st' hp hs => ⟨_, rfl, ?_⟩) (args_list_sort _)))
  obtain ⟨ss', r1, r2, r3⟩ := sorted_out_str rs hp hs
  obtain ⟨c, hc⟩ := sortedHeap_at (vs := vs) (out := (arrOf st').map (·.2)) hoL
  refine wpAny_pure ⟨_, rfl, q _ s1.heap.objs.size _ c ss' (fun b u e => ?_) g1 o1 hz hc r1 r3 (fun k => by rw [r2.mem_iff]; exact mem0 k) ?_⟩
  · have e1 := k1 b u e
    have lt := Heap.lt_size e1
    show (sortedHeap (s1.heap.push (seqObj "list" vs.toArray 0)) s1.heap.objs.size vs _).get? b = some u
    rw [sortedHeap_old (Nat.ne_of_lt lt) (by rw [Heap.size_push]; exact Nat.lt_succ_of_lt lt)]
    exact Heap.get?_push_of_some _ e1
  · rw [r2.length_eq, ← rs.length]
    exact lv
end
end KB
namespace KB
open PySem PySem.Spec PyProof.Rows L2 PpSet
def TxO (P : Program) (w : World) (a : Addr) (l : List Str) : HO := .ext fun h => TxSet P w h a l
theorem txO_new {w : World} {P : Program} {H : Hp} {h : Heap} {a : Addr} {l : List Str} (R : TxSet P w h a l) : ObjOk P w H h a (TxO P w a l) := ⟨R, R.ob, fun _ _ p k => TxSet.at p k⟩
section
variable {X : Cx}
theorem txO_add {pins : List (Addr × Obj)} {σ : L2.St} {H : Hp} {s : Shared} {E : Value → Shared → Prop} {D : Addr} {l : List Str} {k : Str} {u : Tok} {Q : Value → Shared → Prop} (I : Inv X pins σ H s) (hD : H D = some (TxO X.prog X.w D l)) (room : l.length < 50)
    (q : ∀ s', Inv X pins σ (upd H D (TxO X.prog X.w D (if k ∈ l then l else k :: l))) s' → Q .none s') : wpAny (model X.prog X.w) X.A (call (.builtin "set.add") [.ref D, .str k u]) Q E s := by
  have R : TxSet X.prog X.w s.heap D l := (I.hok D _ hD).1
  exact txset_add R room fun h' sb new => q _ (I.write (e := D) (t' := s.toks + 1) (by rw [hD]; trivial) (.inl rfl) (fun b o hb ho => (sb.2 b hb).trans ho) new.ob (txO_new new))
def tSs (P : Program) (w : World) (wi : TI) (g : TG) (tt : TT) (te : TE) (vs : List Nat) : TE := fun σ H Q => wi σ H fun J H1 => ∀ D, H1 D = none → ∃ W : Nat → Nat → Hp → Prop, (∃ m, W 0 m (upd H1 D (TxO P w D []))) ∧ ∀ i m H, W i m H → (J.stop i H ∧ Q (.ref D) H) ∨ (J.go i H ∧ ∃ Nx : Hp → Prop, (∀ H', Nx H' → ∃ m', m' < m ∧ W (i + 1) m' H') ∧ ∀ x H', J.yld i H x H' → g x (wipe σ vs) H' fun σ2 H2 => wipe σ2 vs = wipe σ vs ∧ tt σ2 H2 fun b H3 =>
    if b = true then te σ2 H3 fun y H4 => ∃ (k : Str) (l : List Str), y = .str k ∧ H4 D = some (TxO P w D l) ∧ l.length < 50 ∧ Nx (upd H4 D (TxO P w D (if k ∈ l then l else k :: l))) else Nx H3)
theorem pe_ss {elt tg iter : Expr} {ifs : List Expr} {scope : Scope} {own : List (Str × Nat)} {pos : Pos} {wi : TI} {g : TG} {tt : TT} {te : TE} (hc : X.calm = true) (hN : X.N.Nodup) (hi : PI X tg iter wi) (ok : BlkOk X.N X.env.scope scope own) (hg : ∀ (s : Shared) (H : Hp) (C : Addr) (cl : List (Str × Addr)) (fp : List Addr), PG (X.blk s H scope (compEnvC scope cl C X.env) fp) tg g) (ht : ∀ (s : Shared) (H : Hp) (C : Addr) (cl : List (Str × Addr)) (fp : List Addr), PTs (X.blk s H scope (compEnvC scope cl C X.env) fp) ifs tt) (he : ∀ (s : Shared) (H : Hp) (C : Addr) (cl : List (Str × Addr)) (fp : List Addr), PE (X.blk s H scope (compEnvC scope cl C X.env) fp) elt te) (hs : ∀ x, foldedSetIterable iter X.env x = pure x := by intro _; rfl) :
    PE X (.SetComp elt [⟨tg, iter, ifs, 0⟩] scope pos) (tSs X.prog X.w wi g tt te (own.map (·.2))) := by
  (refine ⟨fun pins s σ H Q I h => ?_⟩)
  have free : ∀ y ∈ scope.names, y.2 = .free → ∃ c, X.env.cells.lookup y.1 = some c := fun y hy e => (ok.free y hy e).elim (fun k => I.ok.has _ (.inl k)) fun k => I.ok.has _ (.inr k)
  rw [eval_SetComp]
  refine wpAny_comprehension_free (use := none) rfl hs (closure_ok free) ok.kind (fun y hy e => by rw [ok.uniq y hy, e]) (thn (hi.run pins s σ H _ I h) fun xv s1 hx => thn hx fun itv s2 h2 => ?_)
  obtain ⟨it, fp, tn, J, H2, rfl, I2, T, st2, f2, q⟩ := h2
  (refine newSet_ok (newEnv_comp ?_))
  obtain ⟨D, hD⟩ : ∃ D, s2.heap.objs.size = D := ⟨_, rfl⟩
  obtain ⟨W, ⟨m0, w0⟩, turn⟩ := q D (I2.hok.fresh (Nat.le_of_eq hD))
  have stays : ∀ b ∈ fp, b < s2.heap.objs.size := fun b hb => by
    (obtain ⟨o, e, _⟩ := T.obj _ _ st2 b hb)
    exact Heap.lt_size e
  obtain ⟨s3, hs3⟩ : ∃ s3 : Shared, ({ s2 with heap := s2.heap.push { cls := .type "set", dict := none, data := .set #[] 0 (.fresh 0 0 (!X.w.params.followText "set-order")) } } : Shared) = s3 := ⟨_, rfl⟩
  have kept3 : ∀ b o, s2.heap.get? b = some o → s3.heap.get? b = some o := fun b o e => by rw [← hs3]; exact Heap.get?_push_of_some _ e
  have size3 : s3.heap.objs.size = s2.heap.objs.size + 1 := by rw [← hs3]; exact Heap.size_push _ _
  obtain ⟨H3, hH3⟩ : ∃ H3, upd H2 D (TxO X.prog X.w D []) = H3 := ⟨_, rfl⟩
  have I3 : Inv X pins σ H3 s3 := by
    rw [← hs3, ← hH3]
    (refine I2.laid (t' := s2.toks) (fun b o e => Heap.get?_push_of_some _ e) (Nat.le_of_eq hD) ?_)
    rw [← hD]
    exact txO_new txset_new
  have f3 : ∀ b ∈ fp, FpOk X pins H3 b ∧ b < s3.heap.objs.size := fun b hb => by
    have lt := stays b hb
    refine ⟨⟨?_, (f2 b hb).2⟩, Nat.lt_of_lt_of_le lt (by rw [size3]; exact Nat.le_succ _)⟩
    rw [← hH3, upd_ne (by rw [← hD]; exact Nat.ne_of_lt lt)]
    exact (f2 b hb).1
  rw [hH3] at w0
  (have I4 := block_start I3 ok hN f3)
  have st3 : tn 0 s3.heap := T.keep _ _ _ st2 fun b _ o e => kept3 b o e
  have none3 : ∀ b ∈ fp, H3 b = none := fun b hb => (f3 b hb).1.1
  rw [hD, hs3]
  obtain ⟨C, hC⟩ : ∃ C, s3.heap.objs.size = C := ⟨_, rfl⟩
  obtain ⟨ce, hce⟩ : ∃ ce, compEnvC scope (cellsFrom (s3.heap.objs.size + 1) scope.names (cloFrom X.env.cells scope.names [])) s3.heap.objs.size X.env = ce := ⟨_, rfl⟩
  have cL : ce.locals = s3.heap.objs.size := by rw [← hce]; rfl
  have rg := hg s3 H3 s3.heap.objs.size (cellsFrom (s3.heap.objs.size + 1) scope.names (cloFrom X.env.cells scope.names [])) fp
  have rt := ht s3 H3 s3.heap.objs.size (cellsFrom (s3.heap.objs.size + 1) scope.names (cloFrom X.env.cells scope.names [])) fp
  have re := he s3 H3 s3.heap.objs.size (cellsFrom (s3.heap.objs.size + 1) scope.names (cloFrom X.env.cells scope.names [])) fp
  show codeAny _ _ (.compStart (.SetComp elt [⟨tg, iter, ifs, 0⟩] scope pos) 0 (.ref it) (.ref D) (compEnvC scope (cellsFrom (s3.heap.objs.size + 1) scope.names (cloFrom X.env.cells scope.names [])) s3.heap.objs.size X.env)) _ { s3 with heap := pushCells (s3.heap.push { cls := .type "dict", data := .dict #[] }) scope.names }
  rw [hce] at I4 rg rt re ⊢
  obtain ⟨s4, hs4⟩ : ∃ s4 : Shared, ({ s3 with heap := pushCells (s3.heap.push { cls := .type "dict", data := .dict #[] }) scope.names } : Shared) = s4 := ⟨_, rfl⟩
  rw [hs4] at I4 ⊢
  (have st4 : tn 0 s4.heap := T.keep _ _ _ st3 fun b _ o e => by rw [← hs4]; exact pushCells_keeps _ _ _ _ (Heap.get?_push_of_some _ e))
  -- what the walked thing asks, in the block
  have asks : ∀ {σ' : L2.St} {H' : Hp} {s' : Shared}, Inv (X.blk s3 H3 scope ce fp) [] σ' H' s' → (∀ b ∈ fp, H' b = none) → ∀ b ∈ fp, FpOk (X.blk s3 H3 scope ce fp) [] H' b := fun I' hn b hb => ⟨hn b hb, (I'.ok.exf b hb).1, I'.ok.exfs b hb, .inl hb, fun x c e => (I'.ok.exf b hb).2 x c e, fun p hp => absurd (show p ∈ ([] : List (Addr × Obj)) ++ [] from hp) (by simp)⟩
  refine codeAny_compStart_set ?loop (T.self X.A 0 _ _ _ st4 ?loop)
  refine compLoopS_any (fun n s' => ∃ i H', Inv (X.blk s3 H3 scope ce fp) [] (wipe σ (own.map (·.2))) H' s' ∧ tn i s'.heap ∧ (∀ b ∈ fp, H' b = none) ∧ W i n H') ?_ m0 ⟨0, H3, I4, st4, none3, w0⟩
  (rintro n s5 ⟨i, H5, I5, st5, n5, w5⟩)
  (rcases turn i n H5 w5 with ⟨stop, qq⟩ | ⟨go, Nx, hNx, step⟩)
  · -- the end: back in the def's own context
    refine thnF (T.done (X.blk s3 H3 scope ce fp) rfl rfl rfl hc i [] s5 _ H5 (fun _ _ => False) I5 (asks I5 n5) st5 stop) fun r s6 ⟨hr, I6⟩ => ?_
    subst hr
    have I7 : Inv X pins σ H5 s6 := I3.call' (ch := fp) I6.os I6.base I6.hok I6.bare fun b hb =>
      have z := (f3 b hb).1.2
      ⟨z.2.2.1, z.1, z.2.2.2.1, z.2.2.2.2⟩
    obtain ⟨m, hn, _⟩ := I6.loc
    (have hn : s6.heap.Ns ce.locals m := hn)
    have nC : H5 ce.locals = none := I6.free
    rw [cL] at hn nC
    refine ⟨m, hn, fun h'' sb => ?_⟩
    obtain ⟨a0, a1, a2, a3, a4, a5⟩ := I3.fpOk (Nat.le_refl _) nC
    exact ⟨.ref D, H5, I7.turned (t' := s6.toks) (fun b o hb e => (sb.2 b hb).trans e) a0 a1 a3 a4 a5, rfl, qq⟩
  · -- a turn
    refine thnF (T.item (X.blk s3 H3 scope ce fp) rfl rfl rfl hc i [] s5 _ H5 (fun _ _ => False) I5 (asks I5 n5) st5 go) fun r s6 ⟨u, hr, h6⟩ => ?_
    subst hr
    (refine thnF h6 fun _ s7 ⟨x, H7, I7, r7, y7, st7, n7⟩ => ?_)
    have I7' := I7.pinned (asks I7 n7) (T.obj _ _ st7)
    refine thnF (rg.run _ s7 _ H7 x u _ I7' r7 (step x H7 y7)) fun _ s8 ⟨σ8, H8, I8, hw8, q8⟩ => ?_
    refine thnF (rt.run _ s8 σ8 H8 _ I8 q8) fun b s9 ⟨H9, I9, q9⟩ => ?_
    have next : ∀ {s' : Shared} {H' : Hp}, Inv (X.blk s3 H3 scope ce fp) ([] ++ pinsAt fp s7.heap) σ8 H' s' → Nx H' → ∃ m, m < n ∧ ∃ i H', Inv (X.blk s3 H3 scope ce fp) [] (wipe σ (own.map (·.2))) H' s' ∧ tn i s'.heap ∧ (∀ b ∈ fp, H' b = none) ∧ W i m H' := fun {s' H'} I' nx => by
      (obtain ⟨m', hm, w'⟩ := hNx H' nx)
      have held : ∀ b ∈ fp, ∀ o, s7.heap.get? b = some o → s'.heap.get? b = some o ∧ H' b = none := fun b hb o e =>
        have z := I'.pin (b, o) (List.mem_append_right _ (List.mem_append_right _ (mem_pinsAt hb e)))
        ⟨z.1, z.2.1⟩
      refine ⟨m', hm, i + 1, H', (I'.unpinned (pins := [])).weak (by rw [← hw8, wipe_length]) (fun j v e => (wipe_some (by rw [hw8]; exact e)).1), T.keep _ _ _ st7 fun b hb o e => (held b hb o e).1, fun b hb => ?_, w'⟩
      (obtain ⟨o, e, _⟩ := T.obj _ _ st7 b hb)
      exact (held b hb o e).2
    cases b with
    | false =>
      (simp only [Bool.false_eq_true, if_false] at q9 ⊢)
      exact next I9 q9
    | true =>
      simp only [if_true] at q9 ⊢
      refine thnF (re.run _ s9 σ8 H9 _ I9 q9) fun z s10 ⟨yv, H10, I10, r10, k, l, ey, hD10, hz10, nx⟩ => ?_
      subst ey
      obtain ⟨t, rfl⟩ : ∃ t, z = Value.str k t := r10
      exact txO_add (X := X.blk s3 H3 scope ce fp) I10 hD10 hz10 fun s11 I11 => next I11 nx
end
end KB
namespace KB
open PySem L2 PySem.Spec PyProof.Rows
theorem ss_list {P : Program} {w : World} {K : PySem.W.Frag} {a : Addr} {xs : List V} {g : TG} {tt : TT} {te : TE} {vs : List Nat} {σ : L2.St} {H1 : Hp} {D : Addr} {Qd : Hp → Prop} (Z : Nat → Hp → Prop) (z0 : Z 0 (upd H1 D (TxO P w D []))) (zl : ∀ i H, i ≤ xs.length → Z i H → SqL K H a xs)
    (zs : ∀ i x H, xs[i]? = some x → Z i H → g x (wipe σ vs) H fun σ2 H2 => wipe σ2 vs = wipe σ vs ∧ tt σ2 H2 fun b H3 =>
      if b = true then te σ2 H3 fun y H4 => ∃ (k : Str) (l : List Str), y = .str k ∧ H4 D = some (TxO P w D l) ∧ l.length < 50 ∧ Z (i + 1) (upd H4 D (TxO P w D (if k ∈ l then l else k :: l))) else Z (i + 1) H3) (zd : ∀ H, Z xs.length H → Qd H) :
    ∃ W : Nat → Nat → Hp → Prop, (∃ m, W 0 m (upd H1 D (TxO P w D []))) ∧ ∀ i m H, W i m H → ((Itl K a).stop i H ∧ Qd H) ∨ ((Itl K a).go i H ∧ ∃ Nx : Hp → Prop, (∀ H', Nx H' → ∃ m', m' < m ∧ W (i + 1) m' H') ∧ ∀ x H', (Itl K a).yld i H x H' → g x (wipe σ vs) H' fun σ2 H2 => wipe σ2 vs = wipe σ vs ∧ tt σ2 H2 fun b H3 =>
        if b = true then te σ2 H3 fun y H4 => ∃ (k : Str) (l : List Str), y = .str k ∧ H4 D = some (TxO P w D l) ∧ l.length < 50 ∧ Nx (upd H4 D (TxO P w D (if k ∈ l then l else k :: l))) else Nx H3) := by
  refine ⟨fun i m H => m + i = xs.length ∧ Z i H, ⟨xs.length, rfl, z0⟩, fun i m H ⟨em, z⟩ => ?_⟩
  have sq := zl i H (by omega) z
  cases m with
  | zero =>
    have ei : i = xs.length := by omega
    subst ei
    exact .inl ⟨⟨xs, sq, Nat.le_refl _⟩, zd H z⟩
  | succ m =>
    have lt : i < xs.length := by omega
    refine .inr ⟨⟨xs, xs[i], sq, by simp [lt]⟩, Z (i + 1), fun H' z' => ⟨m, Nat.lt_succ_self m, by omega, z'⟩, fun x H' y => ?_⟩
    obtain ⟨rfl, y⟩ := y
    exact zs i x _ (y xs sq) z
theorem perm_sub : ∀ {l a : List Str}, l.Nodup → (∀ k ∈ l, k ∈ a) → a.length ≤ l.length → l.Perm a
  | [], a, _, _, h => by rw [List.length_eq_zero_iff.mp (Nat.le_zero.mp h)]
  | x :: l, a, nd, sub, h => by
    (obtain ⟨n1, n2⟩ := List.nodup_cons.mp nd)
    have hx := sub x List.mem_cons_self
    have p := List.perm_cons_erase hx
    have le := List.length_erase_of_mem hx
    rw [List.length_cons] at h
    exact ((perm_sub n2 (fun k hk => (List.mem_erase_of_ne fun e => n1 (by rw [← e]; exact hk)).mpr (sub k (List.mem_cons_of_mem _ hk))) (by omega)).cons x).trans p.symm
section
variable {X : Cx}
def rSortedTx (P : Program) (w : World) : List V → Hp → VK → Prop := fun vs H Q => ∃ (a : Addr) (l : List Str), vs = [.ref a] ∧ H a = some (TxO P w a l) ∧
  ∀ (ss : List Str) (p : Addr), sortedS ss = true → ss.Nodup → (∀ k, k ∈ ss ↔ k ∈ l) → H p = none → Q (.ref p) (upd H p (.lst (ss.map V.str)))
theorem cr_sortedTx (hc : X.calm = true) : CallR X (.builtin "sorted") (rSortedTx X.prog X.w) := by
  (intro pins s σ H vs us Q I r h)
  obtain ⟨a, l, rfl, ha, q⟩ := h
  have R : TxSet X.prog X.w s.heap a l := (I.hok a _ ha).1
  rw [Vals.ref1 r]
  have nd : l.Nodup := by
    obtain ⟨D, _, _, nd, _⟩ := R
    exact nd
  have lz : l.length ≤ 50 := by
    obtain ⟨D, _, _, _, lz, _⟩ := R
    exact lz
  refine txset_sorted R (I.ok.hd hc) fun s' p out c ss k1 g1 o1 hp hob r1 r2 r3 r4 => ?_
  have pm := perm_sub nd (fun k hk => (r3 k).mpr hk) (by omega)
  have ln : (ss.map V.str).length ≤ sizeLine := by rw [List.length_map, r4, sizeLine_eq]; omega
  have np : H p = none := I.hok.fresh hp
  have same : ({ s with heap := s'.heap, gens := s'.gens, drawn := s'.drawn, toks := s'.toks } : Shared) = s' := by
    cases s'
    cases s
    cases o1
    rfl
  have I' : Inv X pins σ (upd H p (.lst (ss.map V.str))) s' := by
    rw [← same]
    exact I.call (ch := []) (Un.laid k1 hp np) (I.hok.laid k1 hp ⟨ln, out.toList, c, vals_of_strs r1, hob⟩) (by rw [g1]; exact I.bare) (fun _ z => nomatch z)
  exact ⟨.ref p, _, I', rfl, q ss p r2 (pm.nodup_iff.mp nd) r3 np⟩
end
def abcs (ss : List Str) : List Str := abc.filter fun k => decide (k ∈ ss)
theorem srt2 : ∀ x ∈ abc, ∀ y ∈ abc, sortedS [x, y] = true → x ≠ y → [x, y] = abcs [x, y] := by decide +kernel
theorem srt3 : ∀ x ∈ abc, ∀ y ∈ abc, ∀ z ∈ abc, sortedS [x, y, z] = true → x ≠ y → x ≠ z → y ≠ z → [x, y, z] = abcs [x, y, z] := by decide +kernel
theorem no4 : ∀ x ∈ abc, ∀ y ∈ abc, ∀ z ∈ abc, ∀ u ∈ abc, x = y ∨ x = z ∨ x = u ∨ y = z ∨ y = u ∨ z = u := by decide +kernel
theorem srt1 : ∀ x ∈ abc, [x] = abcs [x] := by decide +kernel
theorem sorted_abc {ss : List Str} (h : ∀ k ∈ ss, k ∈ abc) (nd : ss.Nodup) (so : sortedS ss = true) : ss = abcs ss := by
  match ss, h, nd, so with
  | [], _, _, _ => decide +kernel
  | [x], h, _, _ => exact srt1 x (h x (by simp))
  | [x, y], h, nd, so =>
    simp only [List.nodup_cons, List.mem_cons, not_or] at nd
    exact srt2 x (h x (by simp)) y (h y (by simp)) so nd.1.1
  | [x, y, z], h, nd, so =>
    simp only [List.nodup_cons, List.mem_cons, not_or] at nd
    exact srt3 x (h x (by simp)) y (h y (by simp)) z (h z (by simp)) so nd.1.1 nd.1.2.1 nd.2.1.1
  | x :: y :: z :: u :: r, h, nd, _ =>
    simp only [List.nodup_cons, List.mem_cons, not_or] at nd
    rcases no4 x (h x (by simp)) y (h y (by simp)) z (h z (by simp)) u (h u (by simp)) with e | e | e | e | e | e
    · exact absurd e nd.1.1
    · exact absurd e nd.1.2.1
    · exact absurd e nd.1.2.2.1
    · exact absurd e nd.2.1.1
    · exact absurd e nd.2.1.2.1
    · exact absurd e nd.2.2.1.1
end KB
namespace KZ
open PySem
open PySem.Sem (wp)
theorem adn {a b : Nat} (h : a ≠ b) : @Ne Addr a b := h
abbrev e1 (h : Heap) (l : Addr) : Heap := h.push { cls := .type "tuple_iterator", data := .fields #[.ref l, .int 0 0] }
abbrev e2 (h : Heap) (l : Addr) : Heap := (e1 h l).push { cls := .type "enumerate", data := .fields #[.none, .bool false, .ref h.objs.size, rawInt 0, .none, .none] }
theorem meetsE (l : Addr) (xs : Array Value) :
    Meets (Builtin.«enumerate.__new__» ⟨[.type "enumerate", .ref l], []⟩) (fun _ R s => s.heap.IsTuple l xs ∧ R (.ok (.ret (.ref (e1 s.heap l).objs.size))) { s with heap := e2 s.heap l }) :=
  .of_wp fun prog w A R s hin => by
    (obtain ⟨hp, g, d, tk, os⟩ := s)
    obtain ⟨hl1, h⟩ := hin
    have hsub := sub_enumerate
    have a1 : Heap.IsTuple (Shared.heap ⟨hp, g, d, tk, os⟩) l xs := hl1
    wp_walk using wpAny_pyIter_tuple a1
    (refine wpAny_stack_any fun st => wpAny_pure ?_)
    split
    · rename_i c _ _ _ _ _
      cases (c == Value.type "enumerate") <;> (wp_walk using wpAny_pyIter_tuple a1; exact ⟨_, rfl, h⟩)
    · wp_walk using wpAny_pyIter_tuple a1
      exact ⟨_, rfl, h⟩
section
variable {A : Around} {E : Value → Shared → Prop} {s : Shared} {prog : Program} {w : World}
theorem callE {l : Addr} {xs : Array Value} {Q : Value → Shared → Prop} (hL : s.heap.IsTuple l xs)
    (h : ∀ (n : Nat) h', n = s.heap.objs.size → IsEnum h' (n + 1) n 0 .none → h'.IsTupleIter n l 0 → (∀ c o, s.heap.get? c = some o → h'.get? c = some o) → Q (.ref (n + 1)) { s with heap := h' }) : wpAny (model prog w) A (call (.type "enumerate") [.ref l]) Q E s := by
  refine callType_new F.called_enumerate (by decide) (F.typeCall_enumerate_1 _) (F.newCall_enumerate_1 _) (fun obj => F.args_object_init_2 obj _) F.entry_enumerate_new (meetsE l xs) ⟨hL, ?_⟩
  have z1 : (e1 s.heap l).objs.size = s.heap.objs.size + 1 := Heap.size_push ..
  have q2 : (e2 s.heap l).get? (e1 s.heap l).objs.size = some _ := Heap.get?_push_size _ rfl
  have q1 : (e2 s.heap l).get? s.heap.objs.size = some _ := Heap.get?_push_of_some _ (Heap.get?_push_size _ rfl)
  show _ ∧ _
  rw [z1] at q2
  rw [z1]
  exact ⟨⟨_, q2, rfl⟩, h _ _ rfl q2 ⟨_, q1, rfl, rfl⟩ fun c o x => Heap.get?_push_of_some _ (Heap.get?_push_of_some _ x)⟩
end
end KZ
namespace KZ
open PySem L2 PySem.Spec PyProof.Rows
def IeT (K : PySem.W.Frag) (a : Addr) : It :=
  ⟨fun i H => ∃ (xs : List V) (x : V), SqT K H a xs ∧ xs[i]? = some x, fun i H v H' => ∃ T x, v = .ref T ∧ H T = none ∧ H' = upd H T (.tup [.int (i : Nat), x]) ∧ ∀ xs, SqT K H a xs → xs[i]? = some x, fun i H => ∃ xs : List V, SqT K H a xs ∧ xs.length ≤ i⟩
theorem turnE {P : Program} {w : World} {K : PySem.W.Frag} {elts : List Expr} {kk : Nat} {tpos : Pos} {a n : Nat} (na : a < n) :
    Turn P w K (.Tuple elts kk tpos) (IeT K a) [n + 1, n] (n + 1) (fun i h => (∃ old, IsEnum h (n + 1) n ((i : Nat) : Int) old) ∧ h.IsTupleIter n a i) where
  mem := by simp
  obj := fun i h st b hb => by
    obtain ⟨⟨old, he⟩, ⟨o, ho, hc, hd⟩⟩ := st
    (rcases List.mem_cons.mp hb with z | z)
    · (rw [z]; exact ⟨_, he, fun v q => nomatch q⟩)
    · rw [List.mem_singleton.mp z]; exact ⟨o, ho, fun v q => by rw [hd] at q; cases q⟩
  keep := fun i h h' st k => let ⟨⟨old, he⟩, hi⟩ := st; ⟨⟨old, k (n + 1) (by simp) _ he⟩, hi.at fun o q => k n (by simp) o q⟩
  item := by
    (intro X hP hw hK hc i pins s σ H E I hf st hg)
    subst hP hw hK
    obtain ⟨⟨old, he⟩, hit⟩ := st
    obtain ⟨xs, x, hq, hx⟩ := hg
    (obtain ⟨its, rv, p, hz⟩ := I.tuple hq)
    (obtain ⟨u, hu, ru⟩ := rv.get hx)
    have hel : n + 1 < s.heap.objs.size := Heap.lt_size he
    have hil : n < s.heap.objs.size := by omega
    have iu : its.toArray[i]? = some u := by simpa using hu
    have il : i < its.toArray.size := (Array.getElem?_eq_some_iff.mp iu).1
    have nn : @Ne Addr (n + 1) n := adn (by omega)
    have an : @Ne Addr a n := adn (by omega)
    have nin : (n + 1 : Addr) ∉ ([n, a] : List Addr) := fun z => by
      (rcases (List.mem_cons.mp z) with z | z)
      · exact nn z
      · exact (adn (by omega : n + 1 ≠ a)) (List.mem_singleton.mp z)
    have DR := Draws.tuple (prog := X.prog) (w := X.w) (A := X.A.in1) (show X.A.in1.handled = none from I.ok.hd hc) n a an its.toArray
    refine wpAny_pyNext_enum_itemD DR he (And.intro hit p) il nn nin fun y h' tk hy ho hs' hT hsz hk => ?_
    rw [iu] at hy
    obtain rfl := Option.some.inj hy
    refine ⟨_, rfl, wpAny_letOwnedTupleGo_enum (s := { s with heap := h', toks := tk + 1 }) ho fun h2nd he' sb => ?_⟩
    have hT2 : h2nd.get? s.heap.objs.size = some { cls := .type "tuple", data := .seq #[.int i tk, u] } := (sb.2 _ (Nat.ne_of_gt hel)).trans hT
    have new : ObjOk X.prog X.w (upd H s.heap.objs.size (.tup [.int (i : Nat), x])) h2nd s.heap.objs.size (.tup [.int (i : Nat), x]) :=
      ⟨by show 2 ≤ sizeLine; decide, [.int i tk, u], .cons ⟨_, rfl⟩ (.cons ru .nil), ⟨_, hT2, rfl, _, rfl⟩⟩
    have out : ∀ b, b ∉ ([n + 1, n] : List Addr) → b ≠ n + 1 ∧ b ≠ n := fun b hb => ⟨fun z => hb (by simp [z]), fun z => hb (by simp [z])⟩
    have I1 : Inv X pins σ (upd H s.heap.objs.size (.tup [.int (i : Nat), x])) { s with heap := h2nd, toks := tk + 1 } :=
      I.turnedNew (ch := [n + 1, n]) (fun b ob hb q => (sb.2 b (out b hb).1).trans (hk b ob (out b hb).1 (out b hb).2 q)) hf (Nat.le_refl _) new
    refine ⟨.ref s.heap.objs.size, _, I1, rfl, ⟨_, x, rfl, I.hok.fresh (Nat.le_refl _), rfl, fun ys hy => by rw [I.tuple_inj hy hq]; exact hx⟩, ⟨⟨u, ?_⟩, hs'.1.at fun o q => (sb.2 n (adn (by omega))).trans q⟩, fun b hb => ?_⟩
    · have c1 : ((i + 1 : Nat) : Int) = (i : Int) + 1 := by omega
      rw [c1]; exact he'
    · have lt : b < s.heap.objs.size := by
        (rcases List.mem_cons.mp hb with z | z)
        · rw [z]; exact hel
        · rw [List.mem_singleton.mp z]; exact hil
      rw [upd_ne (Nat.ne_of_lt lt)]
      exact (hf b hb).1
  done := by
    (intro X hP hw hK hc i pins s σ H E I hf st hg)
    subst hP hw hK
    obtain ⟨⟨old, he⟩, hit⟩ := st
    obtain ⟨xs, hq, hx⟩ := hg
    (obtain ⟨its, rv, p, hz⟩ := I.tuple hq)
    obtain ⟨f0, f1, f2, f3, f4, f5⟩ := hf n (by simp)
    have hl := rv.length
    have hn : its.toArray[i]? = none := by simp; omega
    have hT : s.TypeIs (.ref (n + 1)) "enumerate" := ⟨_, he, rfl⟩
    unfold pyNext
    refine wpAny_bind (wpAny_attempt (wpAny_callSpecial?_slot (name := Str.ofString "__next__") hT F.slot_enumerate_next (wpAny_call_entry F.slot_enumerate_next hT F.entry_enumerate_next ?_ (F.args_enumerate_next_1 _))))
    show wpAny _ _ (field (.ref (n + 1)) 2 >>= _) _ _ _
    refine wpAny_bind (wpAny_field he rfl (x := .ref n) rfl ?_)
    refine wpAny_bind (wpAny_nextOf_tuple_end (I.ok.hd hc) hit p hn fun h' x hb hx' => ?_)
    obtain ⟨o, ho, hcl⟩ := hx'
    refine wpAny_bind (wpAny_isInstance (T := "StopIteration") (b := true) ⟨o, ho, hcl⟩ isSubtype_stop ?_)
    exact wpAny_pure ⟨rfl, I.turned (t' := s.toks) (fun b o hbn q => hb b o hbn q) f0 f1 f3 f4 f5⟩
  self := fun A i s Q E st hq => let ⟨⟨_, he⟩, _⟩ := st; wpAny_pyIter_enum he hq
def iEnumT (K : PySem.W.Frag) (ta : TA) : TI := fun σ H R => ta σ H fun vs H1 => ∃ a xs, vs = [.ref a] ∧ SqT K H1 a xs ∧ R (IeT K a) H1
theorem pi_enumT {X : Cx} {e : Expr} {ta : TA} {p pos tpos : Pos} {elts : List Expr} {kk : Nat} (hg : Gl X "enumerate") (hm : X.mg "enumerate" = none) (ha : PA X [e] ta) (hs : starEach [e] X.env = [(false, eval e X.env)] := by rfl) :
    PI X (.Tuple elts kk tpos) (.Call (.Name "enumerate" p) [e] [] pos) (iEnumT X.K ta) := by
  (refine ⟨fun pins s σ H R I h => ?_⟩)
  (refine Call_ (ld_blt I hg hm boot_enumerate (PyProof.Rows.callWith_type1 (thn (ha.run pos pins s σ H _ I h) fun us s1 ⟨vs, H1, I1, r1, q1⟩ => ?_) hs rfl)))
  (obtain ⟨a, xs, ex, hq, q⟩ := q1)
  subst ex
  cases r1 with
  | cons r rr =>
    cases rr
    cases r
    obtain ⟨its, rv, p', hz⟩ := I1.tuple hq
    obtain ⟨o1, ho1, _⟩ := id p'
    refine callE p' fun n h' en he hit hk => wpAny_pyIter_enum he ?_
    (have I2 : Inv X pins σ H1 { s1 with heap := h' } := I1.kept (t' := s1.toks) hk)
    refine ⟨n + 1, [n + 1, n], _, _, H1, rfl, I2, turnE (n := n) (by rw [en]; exact Heap.lt_size ho1), ⟨⟨.none, he⟩, hit⟩, fun b hb => ?_, q⟩
    have hle : b ≥ s1.heap.objs.size := by
      (rcases List.mem_cons.mp hb with z | z)
      · rw [z, en]; exact Nat.le_succ _
      · rw [List.mem_singleton.mp z, en]; exact Nat.le_refl _
    (exact I1.fpOk hle (I1.hok.fresh hle))
theorem for_enumT {K : PySem.W.Frag} {a : Addr} {xs : List V} {g : TG} {tb : TS} {D : Ends} {σ : L2.St} {H : Hp} (Pv : Nat → L2.St → Hp → Prop) (h0 : Pv 0 σ H)
    (hq : ∀ i σ H, Pv i σ H → SqT K H a xs)
    (hs : ∀ (i : Nat) (x : V) (T : Addr) (σ : L2.St) (H : Hp), xs[i]? = some x → Pv i σ H → H T = none → g (.ref T) σ (upd H T (.tup [.int (i : Nat), x])) fun σ2 H2 => tb { D with nx := Pv (i + 1), ct := Pv (i + 1), bk := D.nx } σ2 H2) (hd : ∀ σ H, Pv xs.length σ H → D.nx σ H) : ∃ W : Nat → Nat → L2.St → Hp → Prop, (∃ m, W 0 m σ H) ∧ ∀ i m σ H, W i m σ H →
      ((IeT K a).stop i H ∧ D.nx σ H) ∨ ((IeT K a).go i H ∧ ∃ N : L2.St → Hp → Prop, (∀ σ' H', N σ' H' → ∃ m', m' < m ∧ W (i + 1) m' σ' H') ∧ ∀ v H', (IeT K a).yld i H v H' → g v σ H' fun σ2 H2 => tb { D with nx := N, ct := N, bk := D.nx } σ2 H2) := by
  (refine ⟨fun i m σ H => m = xs.length - i ∧ i ≤ xs.length ∧ Pv i σ H, ⟨xs.length, rfl, Nat.zero_le _, h0⟩, ?_⟩)
  rintro i m σ H ⟨rfl, hi, p⟩
  have qx := hq i σ H p
  by_cases hlt : i < xs.length
  · (have hx : xs[i]? = some xs[i] := List.getElem?_eq_getElem hlt)
    refine .inr ⟨⟨xs, _, qx, hx⟩, Pv (i + 1), fun σ' H' p' => ⟨xs.length - (i + 1), by omega, rfl, hlt, p'⟩, ?_⟩
    rintro v H' ⟨T, x, rfl, hT, rfl, ex⟩
    exact hs i x T σ H (ex xs qx) p hT
  · (have e : i = xs.length := by omega)
    subst e
    exact .inl ⟨⟨xs, qx, Nat.le_refl _⟩, hd σ H p⟩
end KZ
namespace KB
open PySem L2 PySem.Spec PyProof.Rows
def Kd.vars (k : Kd) : List Str := abc.filter fun x => decide (x ∈ k.wl)
def spVo : Sp := fun vs H Q _ => ∃ (F : Addr → Prop) (v : V) (k : Kd), vs = [v] ∧ Dt F H v k.d ∧ k.okv = true ∧ k.dep ≤ 100 ∧ sz k.d ≤ 4000000 ∧ ∀ (a : Addr) (H' : Hp), Same H H' → H' a = some (.tup (k.vars.map V.str)) → Q (.ref a) H'
theorem lvs_okv : ∀ (k : Kd) (l : Int), k.okv = true → ∀ p ∈ k.lvs l, p.1.okv = true
  | .num, l, h => fun p hp => by rw [List.mem_singleton.mp hp]; exact h
  | .unit, l, h => fun p hp => by rw [List.mem_singleton.mp hp]; exact h
  | .var x, l, h => fun p hp => by rw [List.mem_singleton.mp hp]; exact h
  | .lst a, l, h => fun p hp => by
    (rcases List.mem_cons.mp hp with e | e)
    · rw [e]; exact h
    · exact lvs_okv a _ h p e
  | .pair a b, l, h => fun p hp => by
    obtain ⟨o1, o2⟩ := Bool.and_eq_true_iff.mp (show (a.okv && b.okv) = true from h)
    (rcases List.mem_cons.mp hp with e | e)
    · rw [e]; exact h
    · exact (List.mem_append.mp e).elim (lvs_okv a _ o1 p) (lvs_okv b _ o2 p)
  | .eith a b, l, h => fun p hp => by
    obtain ⟨o1, o2⟩ := Bool.and_eq_true_iff.mp (show (a.okv && b.okv) = true from h)
    (rcases List.mem_cons.mp hp with e | e)
    · rw [e]; exact h
    · exact (List.mem_append.mp e).elim (lvs_okv a _ o1 p) (lvs_okv b _ o2 p)
  | .fn a b, l, h => fun p hp => by
    obtain ⟨o1, o2⟩ := Bool.and_eq_true_iff.mp (show (a.okv && b.okv) = true from h)
    (rcases List.mem_cons.mp hp with e | e)
    · rw [e]; exact h
    · exact (List.mem_append.mp e).elim (lvs_okv a _ o1 p) (lvs_okv b _ o2 p)
theorem abc_not {x y : Str} (h : x ∈ abc) (d : y ∉ abc) : x ≠ y := fun e => d (by rw [← e]; exact h)
theorem wl_lvs {x : Str} (hx : x ∈ abc) : ∀ (k : Kd) (l : Int), x ∈ k.wl ↔ ∃ p ∈ k.lvs l, p.1 = .var x
  | .num, l => by
    have := abc_not hx (show ("num" : Str) ∉ abc by decide)
    simp [Kd.wl, Kd.lvs, this]
  | .unit, l => by
    have := abc_not hx (show ("unit" : Str) ∉ abc by decide)
    simp [Kd.wl, Kd.lvs, this]
  | .var y, l => by
    simp only [Kd.wl, Kd.lvs, List.mem_singleton]
    constructor
    · rintro rfl
      exact ⟨_, rfl, rfl⟩
    · rintro ⟨p, rfl, e⟩
      exact (Kd.var.inj e).symm
  | .lst a, l => by
    have := abc_not hx (show ("list" : Str) ∉ abc by decide)
    have ia := wl_lvs hx a (l + 1)
    simp only [Kd.wl, Kd.lvs, List.mem_cons, this, false_or, ia]
    constructor
    · rintro ⟨p, hp, e⟩
      exact ⟨p, .inr hp, e⟩
    · rintro ⟨p, rfl | hp, e⟩
      · cases e
      · exact ⟨p, hp, e⟩
  | .pair a b, l => two hx (show ("pair" : Str) ∉ abc by decide) (wl_lvs hx a (l + 1)) (wl_lvs hx b (l + 1)) (fun e => by cases e)
  | .eith a b, l => two hx (show ("either" : Str) ∉ abc by decide) (wl_lvs hx a (l + 1)) (wl_lvs hx b (l + 1)) (fun e => by cases e)
  | .fn a b, l => two hx (show ("fun" : Str) ∉ abc by decide) (wl_lvs hx a (l + 1)) (wl_lvs hx b (l + 1)) (fun e => by cases e)
where
  two {x w : Str} {a b c : Kd} {l : Int} (hx : x ∈ abc) (hw : w ∉ abc) (ia : x ∈ a.wl ↔ ∃ p ∈ a.lvs (l + 1), p.1 = .var x) (ib : x ∈ b.wl ↔ ∃ p ∈ b.lvs (l + 1), p.1 = .var x) (hc : c ≠ .var x) :
      x ∈ w :: (a.wl ++ b.wl) ↔ ∃ p ∈ (c, l) :: (a.lvs (l + 1) ++ b.lvs (l + 1)), p.1 = .var x := by
    have := abc_not hx hw
    simp only [List.mem_cons, List.mem_append, this, false_or, ia, ib]
    constructor
    · rintro (⟨p, hp, e⟩ | ⟨p, hp, e⟩)
      · exact ⟨p, .inr (.inl hp), e⟩
      · exact ⟨p, .inr (.inr hp), e⟩
    · rintro ⟨p, rfl | hp | hp, e⟩
      · exact absurd e hc
      · exact .inl ⟨p, hp, e⟩
      · exact .inr ⟨p, hp, e⟩
theorem few_abc {l : List Str} (h : ∀ k ∈ l, k ∈ abc) (nd : l.Nodup) : l.length ≤ 3 := by
  match l, h, nd with
  | [], _, _ => exact Nat.zero_le _
  | [_], _, _ => exact Nat.le_add_left _ _
  | [_, _], _, _ => exact Nat.le_add_left _ _
  | [_, _, _], _, _ => exact Nat.le_refl _
  | x :: y :: z :: u :: r, h, nd =>
    simp only [List.nodup_cons, List.mem_cons, not_or] at nd
    rcases no4 x (h x (by simp)) y (h y (by simp)) z (h z (by simp)) u (h u (by simp)) with e | e | e | e | e | e
    · exact absurd e nd.1.1
    · exact absurd e nd.1.2.1
    · exact absurd e nd.1.2.2.1
    · exact absurd e nd.2.1.1
    · exact absurd e nd.2.1.2.1
    · exact absurd e nd.2.2.1.1
theorem nd_add {k : Str} {l : List Str} (nd : l.Nodup) : (if k ∈ l then l else k :: l).Nodup := by
  by_cases h : k ∈ l
  · rw [if_pos h]; exact nd
  · rw [if_neg h]; exact List.nodup_cons.mpr ⟨h, nd⟩
theorem mem_add {k y : Str} {l : List Str} : y ∈ (if k ∈ l then l else k :: l) ↔ y = k ∨ y ∈ l := by
  by_cases h : k ∈ l
  · rw [if_pos h]
    exact ⟨.inr, fun z => z.elim (fun e => by rw [e]; exact h) id⟩
  · rw [if_neg h, List.mem_cons]
end KB
namespace J2
open PySem PySem.Spec PyProof.Rows L2 KB
section
variable {K : PySem.W.Frag} {mg : Str → Option Value} {base : Heap} {P : Program} {w : World}
def spPk : Sp := fun vs H Q _ => ∃ (F : Addr → Prop) (v : V) (k : Kd), vs = [v] ∧ Dt F H v k.d ∧ k.okv = true ∧ k.dep ≤ 100 ∧ sz k.d ≤ 4000000 ∧
  ∀ (G : Addr) (gs : List V) (ks : List PyData) (H' : Hp), Same H H' → H' G = some (.lst gs) → DtA (Ot []) H' gs ks → ks.Perm ((k.lvs 1).map fun p => p.1.d) → ks.length ≤ 4000000 → Q (.ref G) H'
abbrev nPk : List Str := ["kind", "part", "level"]
theorem scPk : FnScope nPk ["kind"] (defScope (top 14)) := ⟨rfl, rfl, rfl, by decide +kernel, rfl, by decide +kernel, by decide +kernel⟩
theorem ok_pk {f : Addr} {fd : FuncData} (F : FnP K "parts_of_kind" (top 14) f fd) (hP : Has P w K mg base "_told_parts" ["kind"] 4 spTp) : FnOk P w K mg base CX0 5 f fd ["kind"] spPk := by
  obtain ⟨fP, fdP, kP, gP, bP, GP⟩ := hP
  refine F.ok scPk (fun vs H Q E h => ?_) (fun cdv A outer s H vs Q E hr h => ?_)
  · obtain ⟨F, v, k, rfl, _⟩ := h
    rfl
  · obtain ⟨Fa, v, k, rfl, hd, ov, dp, hsz, q⟩ := h
    have sc := scPk
    have hrP : Room 4 _ := hr
    refine ⟨_, PSs.nox (pss_one (ps_ret (pe_lc (own := [("part", 1), ("level", 2)]) (tt := tYes) (by rfl) sc.nd (pi_list (pe_call GP hrP rfl gP kP bP .nil pass0 (pa_cons (pv 0) pa_nil))) (blkOk_by (own := [("part", 1), ("level", 2)]) (N := nPk) (sc := (defScope (top 14))) (by decide +kernel)) (fun _ _ _ _ _ => (pgT (K := K) (n := 2) rfl rfl (pgs_cons (pg_name (i := 1) sc.nd rfl (Or.inl rfl)) (pgs_cons (pg_name (i := 2) sc.nd rfl (Or.inl rfl)) pgs_nil)))) (fun _ _ _ _ _ => pts_nil) (fun _ _ _ _ _ => (pv 1))))), ?_⟩
    refine ⟨_, rfl, Fa, v, k, rfl, hd, ov, dp, hsz, fun G gs qs H1 s1 hG dg perm cnt => ?_⟩
    have lg := dg.length
    rw [List.length_map] at lg
    refine ⟨G, rfl, ⟨_, SqL.of hG⟩, fun D nD => lc_list (K := K) (a := G) (xs := gs) (fun i H2 => Same H1 H2 ∧ ∃ vs, H2 D = some (.lst vs) ∧ DtA (Ot []) H1 vs ((qs.take i).map Prod.fst)) ⟨Same.new nD, [], upd_same, DtA.nil⟩ (fun i H2 _ hP => SqL.of (hP.1 G _ hG)) ?_ ?_⟩
    · rintro i e H2 hi ⟨sm, vs, hD, dvs⟩
      obtain ⟨de, hde, dte⟩ := dg.get hi
      have il : i < gs.length := (List.getElem?_eq_some_iff.mp hi).1
      obtain ⟨p1, hk1, rfl⟩ : ∃ p, qs[i]? = some p ∧ pvL p = de := by
        rw [List.getElem?_map] at hde
        cases e : qs[i]? with
        | none => rw [e] at hde; cases hde
        | some k2 => rw [e] at hde; exact ⟨k2, rfl, Option.some.inj hde⟩
      obtain ⟨t, xs, rfl, ft, ht, rt⟩ := dte.tupI
      obtain ⟨kv, lv1, rfl, dk, dl⟩ := rt.two
      have lv := dvs.length
      rw [List.length_map, List.length_take] at lv
      refine ⟨t, _, rfl, SqT.of (sm t _ ht), rfl, _, _, rfl, _, _, rfl, rfl, rfl, ?_⟩
      refine iteT (B := Same H1 H2 ∧ ∃ vs, H2 D = some (.lst vs) ∧ DtA (Ot []) H1 vs ((qs.take (i + 1)).map Prod.fst)) ?_
      refine ⟨_, rfl, _, hD, Nat.lt_of_le_of_lt (by omega : _ ≤ 4000000) (by decide), fun b o e2 => ?_, _, upd_same, ?_⟩
      · rw [upd_ne (ne_of_none e2 nD)]
        exact sm b o e2
      · rw [List.take_add_one, hk1, List.map_append]
        exact dvs.append (.cons dk .nil)
    · rintro H2 ⟨sm, vs, hD, dvs⟩
      rw [lg, List.take_length] at dvs
      refine q D vs _ H2 (s1.trans sm) hD (dvs.keep sm) ?_ (by rw [List.length_map]; exact cnt)
      have pm := perm.map Prod.fst
      rw [List.map_map] at pm
      exact pm
abbrev nVo : List Str := ["kind", "part"]
theorem scVo : FnScope nVo ["kind"] (defScope (top 13)) := ⟨rfl, rfl, rfl, by decide +kernel, rfl, by decide +kernel, by decide +kernel⟩
theorem ok_vo {f : Addr} {fd : FuncData} (F : FnP K "variables_of" (top 13) f fd) (B : Bl K mg) (hso : mg "sorted" = none) (hP : Has P w K mg base "parts_of_kind" ["kind"] 5 spPk) : FnOk P w K mg base CX0 6 f fd ["kind"] spVo := by
  obtain ⟨fP, fdP, kP, gP, bP, GP⟩ := hP
  refine F.ok scVo (fun vs H Q E h => ?_) (fun cdv A outer s H vs Q E hr h => ?_)
  · obtain ⟨F, v, k, rfl, _⟩ := h
    rfl
  · obtain ⟨Fa, v, k, rfl, hd, ov, dp, hsz, q⟩ := h
    have sc := scVo
    have hrP : Room 5 _ := hr
    refine ⟨_, PSs.nox (pss_one (ps_ret (pe_callTy call_tuple_of (by rfl) B.tuple (by decide +kernel) (pa_cons (pe_callB (cr_sortedTx rfl) (by rfl) hso (by decide +kernel) (pa_cons (pe_ss (own := [("part", 1)]) (g := gName 1) (by rfl) sc.nd (pi_list (pe_call GP hrP rfl gP kP bP .nil pass0 (pa_cons (pv 0) pa_nil))) (blkOk_by (own := [("part", 1)]) (N := nVo) (sc := (defScope (top 13))) (by decide +kernel)) (fun _ _ _ _ _ => (pg_name (i := 1) sc.nd rfl (Or.inl rfl))) (fun _ _ _ _ _ => (pts_one (pt_cmpR op_eq (pe_ix (ixT (K := K) rfl) (pv 1) pe_int (fun _ _ => rfl)) pe_str (nomark _)))) (fun _ _ _ _ _ => (pe_ix (ixT (K := K) rfl) (pv 1) pe_int (fun _ _ => rfl)))) pa_nil)) pa_nil)))), ?_⟩
    refine ⟨_, rfl, Fa, v, k, rfl, hd, ov, dp, hsz, fun G gs ks H1 s1 hG dg perm cnt => ?_⟩
    have lg := dg.length
    refine ⟨G, rfl, ⟨_, SqL.of hG⟩, fun D nD => ss_list (K := K) (a := G) (xs := gs) (fun i H2 => Same H1 H2 ∧ ∃ l, H2 D = some (TxO P w D l) ∧ l.Nodup ∧ (∀ x ∈ l, x ∈ abc) ∧ ∀ x, x ∈ l ↔ ∃ p ∈ ks.take i, p = (Kd.var x).d)
      ⟨Same.new nD, [], upd_same, List.nodup_nil, (fun x h => nomatch h), fun x => ⟨(fun h => nomatch h), fun ⟨p, hp, _⟩ => by simp at hp⟩⟩ (fun i H2 _ hP => SqL.of (hP.1 G _ hG)) ?_ ?_⟩
    · rintro i e H2 hi ⟨sm, l, hD, nd, sub, mem⟩
      obtain ⟨de, hde, dte⟩ := dg.get hi
      obtain ⟨⟨k1, l1⟩, hkl, rfl⟩ := List.mem_map.mp (perm.mem_iff.mp (List.mem_of_getElem? hde))
      have ok1 : k1.okv = true := lvs_okv k 1 ov (k1, l1) hkl
      have dk' : Dt (Ot []) H1 e k1.d := dte
      have tk : ks.take (i + 1) = ks.take i ++ [k1.d] := by rw [List.take_add_one, hde]; rfl
      cases ev : k1.isVar with
      | true =>
        obtain ⟨x, rfl⟩ : ∃ x, k1 = .var x := by
          cases k1 <;> first | exact ⟨_, rfl⟩ | cases ev
        obtain ⟨a, rfl, fa, ka⟩ := kd_at dk'
        have hx : x ∈ abc := by simpa using (show abc.contains x = true from ok1)
        refine ⟨rfl, _, rfl, a, _, 0, _, rfl, rfl, SqT.of (sm a _ ka), rfl, rfl, _, rfl, ifT (decide_eq_true rfl) ?_⟩
        refine ⟨_, rfl, a, _, 1, _, rfl, rfl, SqT.of (sm a _ ka), rfl, x, l, rfl, hD, by have := few_abc sub nd; omega, fun b o e2 => ?_, _, upd_same, nd_add nd, fun y hy => ?_, fun y => ?_⟩
        · rw [upd_ne (ne_of_none e2 nD)]
          exact sm b o e2
        · rcases mem_add.mp hy with z | z
          · rw [z]; exact hx
          · exact sub y z
        · rw [mem_add, mem y, tk]
          constructor
          · rintro (z | ⟨p, hp, e⟩)
            · exact ⟨_, List.mem_append_right _ (List.mem_singleton.mpr rfl), by rw [z]⟩
            · exact ⟨p, List.mem_append_left _ hp, e⟩
          · rintro ⟨p, hp, e⟩
            (rcases List.mem_append.mp hp with z | z)
            · exact .inr ⟨p, z, e⟩
            · rw [List.mem_singleton.mp z] at e
              have e' : (Kd.var x).d = (Kd.var y).d := e
              simp only [Kd.d, PyData.tuple.injEq, List.cons.injEq, PyData.str.injEq, and_true, true_and] at e'
              exact .inl e'.symm
      | false =>
        obtain ⟨e3, _⟩ := Kd.d_eqv ev
        have dk2 := dk'
        rw [e3] at dk2
        obtain ⟨a, ys, rfl, fa, ha, ra⟩ := dk2.tupI
        cases ra with
        | @cons y0 ys' _ _ h0 ra' =>
        have e0 := h0.strI
        subst e0
        refine ⟨rfl, _, rfl, a, _, 0, _, rfl, rfl, SqT.of (sm a _ ha), atI_nat (j := 0) rfl, rfl, _, rfl, ifF (decide_eq_false fun z => Kd.word_var ev (V.str.inj z)) ?_⟩
        refine ⟨sm, l, hD, nd, sub, fun y => ?_⟩
        rw [mem y, tk]
        constructor
        · rintro ⟨p, hp, e⟩
          exact ⟨p, List.mem_append_left _ hp, e⟩
        · rintro ⟨p, hp, e⟩
          (rcases List.mem_append.mp hp with z | z)
          · exact ⟨p, z, e⟩
          · rw [List.mem_singleton.mp z] at e
            have e' : k1.d = (Kd.var y).d := e
            rw [e3] at e'
            simp only [Kd.d, PyData.tuple.injEq, List.cons.injEq, PyData.str.injEq] at e'
            exact absurd e'.1 (Kd.word_var ev)
    · rintro H2 ⟨sm, l, hD, nd, sub, mem⟩
      rw [lg, List.take_length] at mem
      refine ⟨D, l, rfl, hD, fun ss p so nd2 ms np => ?_⟩
      have s3 := @Same.new p _ (.lst (ss.map V.str)) np
      refine ⟨p, _, rfl, .inl ⟨SqL.of upd_same, fun a na => ?_⟩⟩
      have s4 := @Same.new a _ (.tup (ss.map V.str)) na
      have e : ss = k.vars := by
        have h1 := sorted_abc (fun k hk => sub k ((ms k).mp hk)) nd2 so
        rw [h1]
        unfold abcs Kd.vars
        refine List.filter_congr fun x hx => decide_eq_decide.mpr ?_
        rw [ms x, mem x, wl_lvs hx k 1]
        constructor
        · rintro ⟨p, hp, ep⟩
          obtain ⟨⟨k1, l1⟩, hkl, rfl⟩ := List.mem_map.mp (perm.mem_iff.mp hp)
          refine ⟨_, hkl, ?_⟩
          have e' : k1.d = (Kd.var x).d := ep
          cases ev : k1.isVar with
          | true =>
            obtain ⟨y, rfl⟩ : ∃ y, k1 = .var y := by
              cases k1 <;> first | exact ⟨_, rfl⟩ | cases ev
            simp only [Kd.d, PyData.tuple.injEq, List.cons.injEq, PyData.str.injEq, and_true, true_and] at e'
            rw [e']
          | false =>
            rw [(Kd.d_eqv ev).1] at e'
            simp only [Kd.d, PyData.tuple.injEq, List.cons.injEq, PyData.str.injEq] at e'
            exact absurd e'.1 (Kd.word_var ev)
        · rintro ⟨⟨k1, l1⟩, hkl, ep⟩
          exact ⟨_, perm.mem_iff.mpr (List.mem_map.mpr ⟨_, hkl, rfl⟩), by show k1.d = _; rw [show k1 = .var x from ep]⟩
      refine q a _ (s1.trans (sm.trans (s3.trans s4))) ?_
      rw [← e]
      exact upd_same
end
end J2
namespace J2
open PySem PySem.Spec PyProof.Rows L2 KB
def spLaw (K : PySem.W.Frag) : Sp := fun vs H Q _ => ∃ (a : Addr) (ns : List Int), vs = [.ref a] ∧ SqL K H a (ns.map V.int) ∧ ∀ H' : Hp, Q (.bl true) H'
section
variable {K : PySem.W.Frag} {mg : Str → Option Value} {base : Heap} {P : Program} {w : World}
abbrev nLaw : List Str := ["_law_script", "_law_turn"]
theorem scLaw : FnScope nLaw ["_law_script"] (defScope (top 49)) := ⟨rfl, rfl, rfl, by decide +kernel, rfl, by decide +kernel, by decide +kernel⟩
theorem all_yes (n : Nat) : (List.replicate n true).all id = true := by
  rw [List.all_eq_true]
  intro b hb
  exact (List.mem_replicate.mp hb).2
theorem few (n : Int) : (if (if (3 : Int) < n then (3 : Int) else n) > 2 then (if (3 : Int) < n then (3 : Int) else n) else 2) = 2 ∨ (if (if (3 : Int) < n then (3 : Int) else n) > 2 then (if (3 : Int) < n then (3 : Int) else n) else 2) = 3 := by
  by_cases h : (3 : Int) < n
  · right
    rw [if_pos h]
    rfl
  · rw [if_neg h]
    by_cases h2 : n > 2
    · rw [if_pos h2]
      omega
    · rw [if_neg h2]
      exact .inl rfl
theorem ok_law {f : Addr} {fd : FuncData} (F : FnP K "law" (top 49) f fd) (T : Bl K mg) (hW : Has P w K mg base "_law_well" ["_law_script", "_law_turn"] 1 (spWell K)) (hO : HasG P w K mg base "_law_right" ["_law_well_here"] 181 spRt) : FnG P w K mg base 182 f fd ["_law_script"] (spLaw K) := by
  obtain ⟨fW, fdW, kW, gW, bW, GW⟩ := hW
  obtain ⟨fO, fdO, kO, gO, bO, GO⟩ := hO
  refine okG F scLaw (fun vs H Q h => ?_) (fun cdv A outer s H vs Q hgd hr h => ?_)
  · obtain ⟨a, ns, rfl, _⟩ := h
    rfl
  · obtain ⟨a, ns, rfl, hS, q⟩ := h
    have sc := scLaw
    have hrW : Room 1 _ := hr.mono (by decide)
    have hrO : Room 181 _ := hr
    refine ⟨_, (pss_one (ps_ret (pe_callB (cr_all rfl) (by rfl) T.all (by decide +kernel) (pa_cons (pe_lc (own := [("_law_turn", 1)]) (g := gName 1) (tt := tYes) (by rfl) sc.nd (pi_range1 rfl T.range (pa_cons (pe_callB (call_max2 rfl) (by rfl) T.max (by decide +kernel) (pa_cons pe_int (pa_cons (pe_callB (call_min2 rfl) (by rfl) T.min (by decide +kernel) (pa_cons (pe_callB call_len (by rfl) T.len (by decide +kernel) (pa_cons (pv 0) pa_nil)) (pa_cons pe_int pa_nil))) pa_nil))) pa_nil)) (blkOk_by (own := [("_law_turn", 1)]) (N := nLaw) (sc := (defScope (top 49))) (by decide +kernel)) (fun _ _ _ _ _ => (pg_name (i := 1) sc.nd rfl (Or.inl rfl))) (fun _ _ _ _ _ => pts_nil) (fun _ _ _ _ _ => (pe_callG GO hgd hrO rfl gO kO bO .nil (pa_cons (pe_call GW hrW rfl gW kW bW .nil pass0 (pa_cons (pv 0) (pa_cons (pv 1) pa_nil))) pa_nil)))) pa_nil)))), ?_⟩
    refine ⟨_, rfl, _, _, rfl, .inl ⟨_, hS, rfl⟩, _, _, rfl, _, _, rfl, ?_⟩
    have hm := few ((List.map V.int ns).length : Int)
    generalize (if (if (3 : Int) < ((List.map V.int ns).length : Int) then (3 : Int) else ((List.map V.int ns).length : Int)) > 2 then (if (3 : Int) < ((List.map V.int ns).length : Int) then (3 : Int) else ((List.map V.int ns).length : Int)) else 2) = m at hm ⊢
    refine ⟨m, rfl, by omega, by omega, fun D nD => lc_range (lo := 0) (n := m.toNat) (fun i H2 => Same H H2 ∧ H2 D = some (.lst ((List.replicate i true).map V.bl))) ⟨Same.new nD, upd_same⟩ ?_ ?_⟩
    · rintro i H2 hi ⟨sm, hD⟩
      have i3 : i < 3 := by omega
      refine ⟨rfl, ?_⟩
      refine iteT (B := Same H H2 ∧ H2 D = some (.lst ((List.replicate (i + 1) true).map V.bl))) ?_
      refine ⟨_, rfl, _, rfl, a, ns, _, rfl, sm.seq hS, by omega, by omega, fun w1 H3 nw s3 w3 => ?_⟩
      refine ⟨w1, 0, rfl, w3, by decide, fun H4 k4 => ?_⟩
      have nwD : D ≠ w1 := fun z => by
        rw [← z, hD] at nw
        cases nw
      refine ⟨_, k4 _ _ nwD (s3 _ _ hD), small1000 (by rw [List.length_map, List.length_replicate]; omega), fun b o e => ?_, ?_⟩
      · rw [upd_ne (ne_of_none e nD)]
        have e2 := sm b o e
        exact k4 b o (ne_of_none e2 nw) (s3 b o e2)
      · rw [upd_same, List.replicate_succ', List.map_append]
        rfl
    · rintro H2 ⟨sm, hD⟩
      refine ⟨D, _, rfl, SqL.of hD, ?_⟩
      rw [all_yes]
      exact q H2
end
end J2
namespace KB
open PySem L2 PySem.Spec PyProof.Rows
def gf {α : Type} (us ws : List α) : List α := match us, ws with
  | [], [a, b] => [a, b]
  | _, _ => []
theorem gf_rel {vs : List V} {us : List Value} {zs : List V} {ws : List Value} (r : Vals vs us) (q : Vals zs ws) : Vals (gf vs zs) (gf us ws) := by
  cases r with
  | cons _ _ => exact .nil
  | nil =>
    cases q with
    | nil => exact .nil
    | cons a q => cases q with
      | nil => exact .nil
      | cons b q => cases q with
        | nil => exact .cons a (.cons b .nil)
        | cons c q => exact .nil
def spFl : Sp := fun vs H Q _ => ∃ (F : Addr → Prop) (kv fv : V) (k : Kd) (fl : List (Str × Kd)), vs = [kv, fv] ∧ Dt F H kv k.d ∧ Dt F H fv (fD fl) ∧ Kg 100 30000 k ∧ Fg fl ∧ ∀ (v : V) (H' : Hp), Same H H' → Dt (Ot []) H' v (k.put fl).d → Q v H'
theorem dta_strs {F : Addr → Prop} {H : Hp} : ∀ ws : List Str, DtA F H (ws.map V.str) (ws.map PyData.str)
  | [] => .nil
  | x :: ws => .cons (.str x) (dta_strs ws)
theorem fg_nil : Fg [] := ⟨List.nil_sublist _, fun p h => nomatch h⟩
theorem put_nil : ∀ k : Kd, k.put [] = k
  | .num => rfl
  | .unit => rfl
  | .var _ => rfl
  | .lst a => by rw [Kd.put, put_nil a]
  | .pair a b => by rw [Kd.put, put_nil a, put_nil b]
  | .eith a b => by rw [Kd.put, put_nil a, put_nil b]
  | .fn a b => by rw [Kd.put, put_nil a, put_nil b]
theorem fg_len {fl : List (Str × Kd)} (h : Fg fl) : fl.length ≤ 3 := by
  have := h.sub.length_le
  rw [List.length_map] at this
  exact this
theorem fg_ok {fl : List (Str × Kd)} (h : Fg fl) : ∀ p ∈ fl, p.2.okv = true ∧ p.2.dep ≤ 3 := fun p hp => ⟨(h.kg p hp).1.ov, (h.kg p hp).1.dp⟩
theorem put_kg {fl : List (Str × Kd)} (h : Fg fl) : ∀ k : Kd, k.okv = true → (k.put fl).okv = true ∧ (k.put fl).dep ≤ k.dep + 2 ∧ (k.put fl).kz ≤ 8 * k.kz
  | .num, _ => ⟨rfl, by show 1 ≤ 1 + 2; decide, by show 1 ≤ 8 * 1; decide⟩
  | .unit, _ => ⟨rfl, by show 1 ≤ 1 + 2; decide, by show 1 ≤ 8 * 1; decide⟩
  | .var x, o => by
    have e : (Kd.var x).put fl = (fget fl x).headD (.var x) := rfl
    cases eg : fget fl x with
    | nil => rw [e, eg]; exact ⟨o, by show 1 ≤ 1 + 2; decide, by show 1 ≤ 8 * 1; decide⟩
    | cons k1 ks =>
      obtain ⟨p, hp, rfl⟩ := fget_mem (x := x) (k := k1) (by rw [eg]; exact List.mem_cons_self)
      have := (h.kg p hp).1
      rw [e, eg]
      exact ⟨this.ov, by have := this.dp; show p.2.dep ≤ 1 + 2; omega, by have := this.kz; show p.2.kz ≤ 8 * 1; omega⟩
  | .lst a, o => by
    obtain ⟨h1, h2, h3⟩ := put_kg h a o
    exact ⟨h1, by show (a.put fl).dep + 1 ≤ a.dep + 1 + 2; omega, by show (a.put fl).kz + 1 ≤ 8 * (a.kz + 1); omega⟩
  | .pair a b, o => two (put_kg h a (Bool.and_eq_true_iff.mp o).1) (put_kg h b (Bool.and_eq_true_iff.mp o).2)
  | .eith a b, o => two (put_kg h a (Bool.and_eq_true_iff.mp o).1) (put_kg h b (Bool.and_eq_true_iff.mp o).2)
  | .fn a b, o => two (put_kg h a (Bool.and_eq_true_iff.mp o).1) (put_kg h b (Bool.and_eq_true_iff.mp o).2)
where
  two {fl : List (Str × Kd)} {a b : Kd} (x : (a.put fl).okv = true ∧ (a.put fl).dep ≤ a.dep + 2 ∧ (a.put fl).kz ≤ 8 * a.kz) (y : (b.put fl).okv = true ∧ (b.put fl).dep ≤ b.dep + 2 ∧ (b.put fl).kz ≤ 8 * b.kz) :
      ((a.put fl).okv && (b.put fl).okv) = true ∧ max (a.put fl).dep (b.put fl).dep + 1 ≤ max a.dep b.dep + 1 + 2 ∧ (a.put fl).kz + (b.put fl).kz + 1 ≤ 8 * (a.kz + b.kz + 1) := by
    obtain ⟨x1, x2, x3⟩ := x
    obtain ⟨y1, y2, y3⟩ := y
    exact ⟨by rw [x1, y1]; rfl, by omega, by omega⟩
theorem int_all : ((List.range 101).all fun n => sdB 1 10 (.int n)) = true := by decide +kernel
theorem int_sd {n : Nat} (h : n ≤ 100) : Sd 1 10 (.int n) := sdB_ok (List.all_eq_true.mp int_all n (List.mem_range.mpr (by omega)))
theorem abc_sd : SdA 0 100 (abc.map PyData.str) := (sdA_of (n := 0) (L := 20) fun d hd => by
  obtain ⟨x, hx, rfl⟩ := List.mem_map.mp hd
  (rcases List.mem_cons.mp hx with e | hx)
  · rw [e]; exact sdB_ok (by decide +kernel)
  · rcases List.mem_cons.mp hx with e | hx
    · rw [e]; exact sdB_ok (by decide +kernel)
    · rw [List.mem_singleton.mp hx]; exact sdB_ok (by decide +kernel)).mono (Nat.le_refl _) (by decide)
theorem told_sd {k : Kd} (h : k.dep ≤ 100) : Sd 3 200 (.list [.int k.dep, .tuple (k.vars.map .str)]) :=
  (SdA.cons ((int_sd h).mono (by decide) (Nat.le_refl _)) (SdA.cons ((abc_sd.sub ((List.filter_sublist (l := abc)).map _)).tup.mono (by decide) (Nat.le_refl _)) (SdA.nil (n := 2) (L := 0)))).lst.mono (by decide) (by decide)
theorem kinds_sd {ks : List Kd} (h : ∀ k ∈ ks, Kg 110 30000 k) (n : ks.length ≤ 3) : (PyData.list (ks.map Kd.d)).showable = true ∧ (PyData.list (ks.map Kd.d)).depth ≤ 180 ∧ sz (.list (ks.map Kd.d)) ≤ 10000000 := by
  have a := (sdA_of (n := 110) (L := 25 * 30000) (ds := ks.map Kd.d) fun d hd => by
    obtain ⟨k, hk, rfl⟩ := List.mem_map.mp hd
    exact (h k hk).sd).lst
  rw [List.length_map] at a
  refine ⟨a.sh, Nat.le_trans a.dp (by decide), Nat.le_trans a.ln ?_⟩
  have := Nat.mul_le_mul_left (25 * 30000 + 2) n
  omega
end KB
namespace J2
open PySem PySem.Spec PyProof.Rows L2 KB
section
variable {K : PySem.W.Frag} {mg : Str → Option Value} {base : Heap} {P : Program} {w : World}
theorem kbDep {f : Addr} {fd : FuncData} (F : FnP K "depth_of_kind" (top 12) f fd) : KBinds K fd ["kind"] ["kind"] g1 g1 :=
  kb_of F (fun _ _ _ _ _ _ us ws hl => match us, ws, hl with
    | [], [_], _ => rfl
    | [], [], hl => nomatch hl
    | [], _ :: _ :: _, hl => nomatch hl
    | _ :: _, _, hl => nomatch hl) g1_rel
theorem kbVar {f : Addr} {fd : FuncData} (F : FnP K "variables_of" (top 13) f fd) : KBinds K fd ["kind"] ["kind"] g1 g1 :=
  kb_of F (fun _ _ _ _ _ _ us ws hl => match us, ws, hl with
    | [], [_], _ => rfl
    | [], [], hl => nomatch hl
    | [], _ :: _ :: _, hl => nomatch hl
    | _ :: _, _, hl => nomatch hl) g1_rel
theorem kbFl {f : Addr} {fd : FuncData} (F : FnP K "filled" (top 21) f fd) : KBinds K fd ["kind", "filling"] ["kind", "filling"] gf gf :=
  kb_of F (fun _ _ _ _ _ _ us ws hl => match us, ws, hl with
    | [], [_, _], _ => rfl
    | [], [], hl => nomatch hl
    | [], [_], hl => nomatch hl
    | [], _ :: _ :: _ :: _, hl => nomatch hl
    | _ :: _, _, hl => nomatch hl) gf_rel
abbrev nTo : List Str := ["_law_well_here", "_law_kind_here", "_law_words", "_law_var", "_law_variables", "_law_some", "_law_more", "_law_once", "_law_other", "_law_twice", "_law_each"]
theorem scTo : FnScope nTo ["_law_well_here", "_law_kind_here"] (defScope (top 47)) := ⟨rfl, rfl, rfl, by decide +kernel, rfl, by decide +kernel, by decide +kernel⟩
theorem ok_to {f fDd fV fF : Addr} {fd fdD fdV fdF : FuncData} (F : FnP K "_law_is_told" (top 47) f fd) (T : Bl K mg)
    (FD : FnP K "depth_of_kind" (top 12) fDd fdD) (gD : mg "depth_of_kind" = some (.ref fDd)) (bD : Binds K fdD ["kind"] []) (GD : FnOk P w K mg base CX0 5 fDd fdD ["kind"] spDpk)
    (FV : FnP K "variables_of" (top 13) fV fdV) (gV : mg "variables_of" = some (.ref fV)) (bV : Binds K fdV ["kind"] []) (GV : FnOk P w K mg base CX0 6 fV fdV ["kind"] spVo)
    (FF : FnP K "filled" (top 21) fF fdF) (gF : mg "filled" = some (.ref fF)) (bF : Binds K fdF ["kind", "filling"] []) (GF : FnOk P w K mg base CX0 150 fF fdF ["kind", "filling"] spFl)
    (hW : Has P w K mg base "_law_words_in" ["_law_kind_here"] (1 + 110 + 1) (spWi 110)) (hE : Has P w K mg base "_law_deep_kind" ["_law_kind_here"] (1 + 110 + 1) (spDe 110)) (hL : Has P w K mg base "_law_filling" ["_law_well_here"] 11 spFil)
    (hP : Has P w K mg base "_law_put" ["_law_kind_here", "_law_filling_here"] (1 + 110 + 1) (spPut 110)) (hS : HasG P w K mg base "_law_same" nSame 1 spSame) : FnG P w K mg base 180 f fd ["_law_well_here", "_law_kind_here"] spTold := by
  obtain ⟨fW, fdW, kW, gW, bW, GW⟩ := hW
  obtain ⟨fE, fdE, kE, gE, bE, GE⟩ := hE
  obtain ⟨fL, fdL, kL, gL, bL, GL⟩ := hL
  obtain ⟨fP, fdP, kP, gP, bP, GP⟩ := hP
  obtain ⟨fS, fdS, kS, gS, bS, GS⟩ := hS
  have kD := FD.kp
  have kV := FV.kp
  have kF := FF.kp
  have kbD := kbDep FD
  have kbV := kbVar FV
  have kbF := kbFl FF
  refine okG F scTo (fun vs H Q h => ?_) (fun cdv A outer s H vs Q hgd hr h => ?_)
  · obtain ⟨w, v, k, c, rfl, _⟩ := h
    rfl
  · obtain ⟨w, v, k, c, rfl, hk, kg, hw, hc, q⟩ := h
    have sc := scTo
    have hrD : Room 5 _ := hr.mono (by omega)
    have hrV : Room 6 _ := hr.mono (by omega)
    have hrF : Room 150 _ := hr.mono (by omega)
    have hrW : Room (1 + 110 + 1) _ := hr.mono (by omega)
    have hrE : Room (1 + 110 + 1) _ := hr.mono (by omega)
    have hrL : Room 11 _ := hr.mono (by omega)
    have hrP : Room (1 + 110 + 1) _ := hr.mono (by omega)
    have hrS : Room 1 _ := hr.mono (by omega)
    refine ⟨_, (pss_cons (ps_set (i := 2) sc.nd rfl (Or.inr rfl) (pe_call GW hrW rfl gW kW bW .nil pass0 (pa_cons (pv 1) pa_nil))) (pss_cons (ps_set (i := 4) sc.nd rfl (Or.inl rfl) (pe_callTy call_tuple_of (by rfl) T.tuple (by decide +kernel) (pa_cons (pe_lc (own := [("_law_var", 3)]) (g := gName 3) (by rfl) sc.nd (pi_tup (pe_tup (pa_cons pe_str (pa_cons pe_str (pa_cons pe_str pa_nil))))) (blkOk_by (own := [("_law_var", 3)]) (N := nTo) (sc := (defScope (top 47))) (by decide +kernel)) (fun _ _ _ _ _ => (pg_name (i := 3) sc.nd rfl (Or.inl rfl))) (fun _ _ _ _ _ => (pts_one (pt_cmpR (inT (K := K) rfl) (pv 3) (pv 2) (by rfl)))) (fun _ _ _ _ _ => (pv 3))) pa_nil))) (pss_cons (ps_if (pt_not (pt_val (pe_callG GS hgd hrS rfl gS kS bS .nil (pa_cons (pe_lst (pa_cons (pe_call GD hrD rfl gD kD bD .nil pass0 (pa_cons (pv 1) pa_nil)) (pa_cons (pe_call GV hrV rfl gV kV bV .nil pass0 (pa_cons (pv 1) pa_nil)) pa_nil))) (pa_cons (pe_lst (pa_cons (pe_call GE hrE rfl gE kE bE .nil pass0 (pa_cons (pv 1) pa_nil)) (pa_cons (pv 4) pa_nil))) pa_nil))))) (pss_one (ps_ret pe_bl)) pss_nil) (pss_cons (ps_if (pt_not (pt_val (pe_callG GS hgd hrS rfl gS kS bS .nil (pa_cons (pe_lst (pa_cons (pe_callK0 GD hrD rfl gD kD kbD pass0 (pk_cons (pv 1) pk_nil)) (pa_cons (pe_callK0 GV hrV rfl gV kV kbV pass0 (pk_cons (pv 1) pk_nil)) pa_nil))) (pa_cons (pe_lst (pa_cons (pe_call GE hrE rfl gE kE bE .nil pass0 (pa_cons (pv 1) pa_nil)) (pa_cons (pv 4) pa_nil))) pa_nil))))) (pss_one (ps_ret pe_bl)) pss_nil) (pss_cons (ps_par (i := 5) (j := 6) (by rfl) sc.nd rfl rfl (by decide) rfl rfl (pa_cons (pe_call GL hrL rfl gL kL bL .nil pass0 (pa_cons (pv 0) pa_nil)) (pa_cons (pe_call GL hrL rfl gL kL bL .nil pass0 (pa_cons (pv 0) pa_nil)) pa_nil)) (by rfl)) (pss_cons (ps_par (i := 7) (j := 8) (by rfl) sc.nd rfl rfl (by decide) rfl rfl (pa_cons (pe_call GP hrP rfl gP kP bP .nil pass0 (pa_cons (pv 1) (pa_cons (pv 5) pa_nil))) (pa_cons (pe_call GP hrP rfl gP kP bP .nil pass0 (pa_cons (pv 1) (pa_cons (pv 6) pa_nil))) pa_nil)) (by rfl)) (pss_cons (ps_set (i := 9) sc.nd rfl (Or.inl rfl) (pe_call GP hrP rfl gP kP bP .nil pass0 (pa_cons (pv 7) (pa_cons (pv 6) pa_nil)))) (pss_cons (ps_if (pt_cmpR op_gt (pe_callB (cr_max rfl) (by rfl) T.max (by decide +kernel) (pa_cons (pe_lc (own := [("_law_each", 10)]) (g := gName 10) (tt := tYes) (by rfl) sc.nd (pi_tup (pe_tup (pa_cons (pv 7) (pa_cons (pv 8) (pa_cons (pv 9) pa_nil))))) (blkOk_by (own := [("_law_each", 10)]) (N := nTo) (sc := (defScope (top 47))) (by decide +kernel)) (fun _ _ _ _ _ => (pg_name (i := 10) sc.nd rfl (Or.inl rfl))) (fun _ _ _ _ _ => pts_nil) (fun _ _ _ _ _ => (pe_call GE hrE rfl gE kE bE .nil pass0 (pa_cons (pv 10) pa_nil)))) pa_nil)) pe_int (nomark _)) (pss_one (ps_ret pe_bl)) pss_nil) (pss_cons (ps_if (pt_not (pt_val (pe_callG GS hgd hrS rfl gS kS bS .nil (pa_cons (pe_lst (pa_cons (pe_call GF hrF rfl gF kF bF .nil pass0 (pa_cons (pv 1) (pa_cons (pv 5) pa_nil))) (pa_cons (pe_call GF hrF rfl gF kF bF .nil pass0 (pa_cons (pv 1) (pa_cons (pe_tup pa_nil) pa_nil))) (pa_cons (pe_callK0 GF hrF rfl gF kF kbF pass0 (pk_cons (pv 1) (pk_cons (pv 5) pk_nil))) pa_nil)))) (pa_cons (pe_lst (pa_cons (pv 7) (pa_cons (pv 1) (pa_cons (pv 7) pa_nil)))) pa_nil))))) (pss_one (ps_ret pe_bl)) pss_nil) (pss_one (ps_ret (pe_callG GS hgd hrS rfl gS kS bS .nil (pa_cons (pe_lst (pa_cons (pe_call GF hrF rfl gF kF bF .nil pass0 (pa_cons (pe_call GF hrF rfl gF kF bF .nil pass0 (pa_cons (pv 1) (pa_cons (pv 5) pa_nil))) (pa_cons (pv 6) pa_nil))) (pa_cons (pe_call GF hrF rfl gF kF bF .nil pass0 (pa_cons (pv 1) (pa_cons (pv 6) pa_nil))) pa_nil))) (pa_cons (pe_lst (pa_cons (pv 9) (pa_cons (pv 8) pa_nil))) pa_nil)))))))))))))), ?_⟩
    have big : ∀ k : Nat, k ≤ 1000 → k ≤ sizeLine := fun k h => Nat.le_of_lt (small1000 h)
    have kdp := kg.dp
    have kkz := kg.kz
    have ksz := kg.sd.ln
    refine ⟨_, rfl, _, v, k, rfl, hk, by omega, by omega, fun p H1 np s1 hp => ?_⟩
    -- the variables
    refine ⟨big _ (by show (3 : Nat) ≤ 1000; decide), fun t nt => ?_⟩
    have s2 := s1.trans (@Same.new t _ (.tup [.str "a", .str "b", .str "c"]) nt)
    have ht2 : (upd H1 t (.tup [.str "a", .str "b", .str "c"])) t = some (.tup (abc.map V.str)) := upd_same
    have hp2 := (@Same.new t _ (.tup [.str "a", .str "b", .str "c"]) nt) _ _ hp
    generalize upd H1 t (.tup [.str "a", .str "b", .str "c"]) = H2 at s2 ht2 hp2 ⊢
    refine ⟨t, rfl, ⟨_, SqT.of ht2⟩, fun D nD => lc_tup (K := K) (a := t) (xs := abc.map V.str) (fun i H' => Same H2 H' ∧ H' D = some (.lst (((abc.take i).filter fun x => decide (x ∈ k.wl)).map V.str))) ⟨Same.new nD, upd_same⟩ (fun i H' _ hP => SqT.of (hP.1 t _ ht2)) ?_ ?_⟩
    · rintro i x H3 hi ⟨sm, hD⟩
      obtain ⟨y, rfl, hy⟩ : ∃ y, x = .str y ∧ abc[i]? = some y := by
        rw [List.getElem?_map] at hi
        cases e : abc[i]? with
        | none => rw [e] at hi; cases hi
        | some y => rw [e] at hi; exact ⟨y, (Option.some.inj hi).symm, rfl⟩
      have tk : abc.take (i + 1) = abc.take i ++ [y] := by rw [List.take_add_one, hy]; rfl
      have i3 : i < 3 := (List.getElem?_eq_some_iff.mp hy).1
      refine ⟨rfl, ?_⟩
      refine ⟨_, rfl, _, rfl, p, _, rfl, .inl (SqL.of (sm _ _ hp2)), rfl, flat_strs _, _, rfl, ?_⟩
      show (if inV (.str y) (k.wl.map V.str) = true then _ else _)
      rw [inV_str]
      have mm : (k.wl.contains y = true) ↔ y ∈ k.wl := by simp
      refine ite2 (fun g => ?_) (fun g => ?_)
      · refine ⟨_, rfl, _, hD, ?_, ?_, ?_⟩
        · refine Nat.lt_of_le_of_lt (?_ : _ ≤ 3) (by decide)
          rw [List.length_map]
          have := List.length_filter_le (fun x => decide (x ∈ k.wl)) (abc.take i)
          rw [List.length_take] at this
          omega
        · intro c o e
          rw [upd_ne (ne_of_none e nD)]
          exact sm c o e
        · rw [upd_same, tk, List.filter_append, List.map_append, List.filter_cons_of_pos (by exact decide_eq_true (mm.mp g))]
          rfl
      · refine ⟨sm, ?_⟩
        rw [tk, List.filter_append, List.filter_cons_of_neg (by simpa using fun z => g (mm.mpr z)), List.filter_nil, List.append_nil]
        exact hD
    rintro H3 ⟨sm3, hD⟩
    rw [List.length_map, List.take_length] at hD
    have hD : H3 D = some (.lst (k.vars.map V.str)) := hD
    refine ⟨D, _, rfl, .inl ⟨SqL.of hD, fun l nl => ?_⟩⟩
    have s4 := s2.trans (sm3.trans (@Same.new l _ (.tup (k.vars.map V.str)) nl))
    have hl4 : (upd H3 l (.tup (k.vars.map V.str))) l = some (.tup (k.vars.map V.str)) := upd_same
    have hkN := hk.keep s4
    have hk4 : Dt (Ot []) (upd H3 l (.tup (k.vars.map V.str))) v k.d := hkN.any
    have w4 := hw.same s4
    have kw4 : Kw w H (upd H3 l (.tup (k.vars.map V.str))) := Kw.same s4
    generalize upd H3 l (.tup (k.vars.map V.str)) = H4 at s4 hl4 hkN hk4 w4 kw4 ⊢
    have ot0 : ∀ a, Ot [] a := fun a z => by cases z
    have tsd := told_sd kdp
    have toldD : ∀ {q1 a : Addr} {H' : Hp}, H' q1 = some (.lst [.int k.dep, .ref a]) → H' a = some (.tup (k.vars.map V.str)) → Dt (Ot []) H' (.ref q1) (.list [.int k.dep, .tuple (k.vars.map .str)]) := fun h1 h2 => .lst (ot0 _) h1 (.cons (.int _) (.cons (.tup (ot0 _) h2 (dta_strs _)) .nil))
    have s40 := Same.refl H4
    -- told by place, by name
    refine ⟨_, rfl, _, v, k, rfl, hk4.keep s40, kg.ov, kdp, by omega, fun H5a s5a => ⟨_, rfl, _, v, k, rfl, (hk4.keep s40).keep s5a, kg.ov, kdp, by omega, fun a6a H6a s6a ha6a => ⟨big _ (by show (2 : Nat) ≤ 1000; decide), fun q7a n7a => ?_⟩⟩⟩
    have s7a := @Same.new q7a _ (.lst [.int k.dep, .ref a6a]) n7a
    have h7a : (upd H6a q7a (.lst [.int k.dep, .ref a6a])) q7a = some (.lst [.int k.dep, .ref a6a]) := upd_same
    have ha7a := s7a _ _ ha6a
    have t7a := s40.trans (s5a.trans (s6a.trans s7a))
    generalize upd H6a q7a (.lst [.int k.dep, .ref a6a]) = H7a at s7a h7a ha7a t7a ⊢
    refine ⟨_, rfl, _, v, k, rfl, hk4.keep t7a, by omega, fun H8a s8a => ⟨_, rfl, big _ (by show (2 : Nat) ≤ 1000; decide), fun q9a n9a => ?_⟩⟩
    have s9a := s8a.trans (@Same.new q9a _ (.lst [.int k.dep, .ref l]) n9a)
    have t9a := t7a.trans s9a
    refine ⟨_, _, _, _, rfl, toldD (s9a _ _ h7a) (s9a _ _ ha7a), toldD upd_same (t9a _ _ hl4), tsd.sh, Nat.le_trans tsd.dp (by decide), Nat.le_trans tsd.ln (by decide), ⟨_, rfl, ifF rfl ?_⟩⟩
    generalize upd H8a q9a (.lst [.int k.dep, .ref l]) = H9a at t9a ⊢
    refine ⟨_, rfl, _, v, k, rfl, hk4.keep t9a, kg.ov, kdp, by omega, fun H5b s5b => ⟨_, rfl, _, v, k, rfl, (hk4.keep t9a).keep s5b, kg.ov, kdp, by omega, fun a6b H6b s6b ha6b => ⟨big _ (by show (2 : Nat) ≤ 1000; decide), fun q7b n7b => ?_⟩⟩⟩
    have s7b := @Same.new q7b _ (.lst [.int k.dep, .ref a6b]) n7b
    have h7b : (upd H6b q7b (.lst [.int k.dep, .ref a6b])) q7b = some (.lst [.int k.dep, .ref a6b]) := upd_same
    have ha7b := s7b _ _ ha6b
    have t7b := t9a.trans (s5b.trans (s6b.trans s7b))
    generalize upd H6b q7b (.lst [.int k.dep, .ref a6b]) = H7b at s7b h7b ha7b t7b ⊢
    refine ⟨_, rfl, _, v, k, rfl, hk4.keep t7b, by omega, fun H8b s8b => ⟨_, rfl, big _ (by show (2 : Nat) ≤ 1000; decide), fun q9b n9b => ?_⟩⟩
    have s9b := s8b.trans (@Same.new q9b _ (.lst [.int k.dep, .ref l]) n9b)
    have t9b := t7b.trans s9b
    refine ⟨_, _, _, _, rfl, toldD (s9b _ _ h7b) (s9b _ _ ha7b), toldD upd_same (t9b _ _ hl4), tsd.sh, Nat.le_trans tsd.dp (by decide), Nat.le_trans tsd.ln (by decide), ⟨_, rfl, ifF rfl ?_⟩⟩
    generalize upd H8b q9b (.lst [.int k.dep, .ref l]) = H9b at t9b ⊢
    -- the fillings
    have wB := w4.same t9b
    have hkB := hkN.keep t9b
    have kwB := kw4.trans (Kw.same t9b)
    refine ⟨_, rfl, w, c, rfl, wB, by omega, fun f1 fl1 c1 HC e1 g1 kw1 w1 l1 => ⟨_, rfl, w, c1, rfl, w1, by omega, fun f2 fl2 c2 HE e2 g2 kw2 w2 l2 => ⟨_, _, rfl, ?_⟩⟩⟩
    have kwE := kwB.trans (kw1.trans kw2)
    have hkE : Dt (Ot []) HE v k.d := ((hkB.kw kw1).kw kw2).any
    have e1E : Dt (Ot []) HE f1 (fD fl1) := (e1.kw kw2).any
    have e2E : Dt (Ot []) HE f2 (fD fl2) := e2.any
    obtain ⟨p1o, p1d, p1z⟩ := put_kg g1 k kg.ov
    obtain ⟨p2o, p2d, p2z⟩ := put_kg g2 k kg.ov
    obtain ⟨p3o, p3d, p3z⟩ := put_kg g2 (k.put fl1) p1o
    refine ⟨_, rfl, _, rfl, _, v, f1, k, fl1, rfl, hkE, e1E, by omega, fg_len g1, fg_ok g1, fun o1 HF sF dF => ⟨_, rfl, _, rfl, _, v, f2, k, fl2, rfl, hkE.keep sF, e2E.keep sF, by omega, fg_len g2, fg_ok g2, fun o2 HG sG dG => ⟨_, _, rfl, ?_⟩⟩⟩
    refine ⟨_, rfl, _, rfl, _, o1, f2, k.put fl1, fl2, rfl, dF.keep sG, (e2E.keep sF).keep sG, by omega, fg_len g2, fg_ok g2, fun o3 HI sI dI => ?_⟩
    have tEI := sF.trans (sG.trans sI)
    have dFI := (dF.keep sG).keep sI
    have dGI := dG.keep sI
    have hkI := hkE.keep tEI
    have e1I := e1E.keep tEI
    have e2I := e2E.keep tEI
    have wI := w2.same tEI
    have kwI := kwE.trans (Kw.same tEI)
    -- the deepest of them
    refine ⟨_, rfl, _, rfl, _, rfl, big _ (by show (3 : Nat) ≤ 1000; decide), fun t2 n2 => ?_⟩
    have sJ := @Same.new t2 _ (.tup [o1, o2, o3]) n2
    have hJ : (upd HI t2 (.tup [o1, o2, o3])) t2 = some (.tup [o1, o2, o3]) := upd_same
    have rowsJ : DtA (Ot []) (upd HI t2 (.tup [o1, o2, o3])) [o1, o2, o3] ([k.put fl1, k.put fl2, (k.put fl1).put fl2].map Kd.d) := .cons (dFI.keep sJ) (.cons (dGI.keep sJ) (.cons (dI.keep sJ) .nil))
    obtain ⟨ks, eks⟩ : ∃ ks, [k.put fl1, k.put fl2, (k.put fl1).put fl2] = ks := ⟨_, rfl⟩
    have kall : ∀ x ∈ ks, x.dep ≤ 110 := fun x hx => by
      rw [← eks] at hx
      rcases List.mem_cons.mp hx with z | hx
      · rw [z]; omega
      · rcases List.mem_cons.mp hx with z | hx
        · rw [z]; omega
        · rw [List.mem_singleton.mp hx]; omega
    have kl3 : ks.length = 3 := by rw [← eks]; rfl
    rw [eks] at rowsJ
    generalize upd HI t2 (.tup [o1, o2, o3]) = HJ at sJ hJ rowsJ ⊢
    refine ⟨t2, rfl, ⟨_, SqT.of hJ⟩, fun D2 nD2 => lc_tup (K := K) (a := t2) (xs := [o1, o2, o3]) (fun i H' => Same HJ H' ∧ H' D2 = some (.lst ((deps (ks.take i)).map V.int))) ⟨Same.new nD2, upd_same⟩ (fun i H' _ hP => SqT.of (hP.1 t2 _ hJ)) ?_ ?_⟩
    · rintro i x HK hi ⟨sm, hD2⟩
      obtain ⟨dd, hdd, dx⟩ := rowsJ.get hi
      obtain ⟨kk, hkk, rfl⟩ : ∃ kk, ks[i]? = some kk ∧ kk.d = dd := by
        rw [List.getElem?_map] at hdd
        cases e : ks[i]? with
        | none => rw [e] at hdd; cases hdd
        | some k2 => rw [e] at hdd; exact ⟨k2, rfl, Option.some.inj hdd⟩
      refine ⟨rfl, ?_⟩
      refine iteT (B := Same HJ HK ∧ HK D2 = some (.lst ((deps (ks.take (i + 1))).map V.int))) ?_
      refine ⟨_, rfl, _, x, kk, rfl, dx.keep sm, kall kk (List.mem_of_getElem? hkk), fun HL sL => ⟨_, sL _ _ hD2, Nat.lt_of_le_of_lt (by rw [deps, List.length_map, List.length_map, List.length_take]; omega : _ ≤ 3) (by decide), fun b o e => ?_, ?_⟩⟩
      · rw [upd_ne (ne_of_none e nD2)]
        exact sL b o (sm b o e)
      · rw [upd_same, deps, deps, List.take_add_one, hkk, List.map_append, List.map_append]
        rfl
    rintro HK ⟨smK, hD2⟩
    have tk3 : ks.take [o1, o2, o3].length = ks := List.take_of_length_le (by rw [kl3]; exact Nat.le_refl 3)
    rw [tk3] at hD2
    refine ⟨D2, _, rfl, SqL.of hD2, by rw [deps, List.length_map, kl3]; decide, fun m hm1 hm2 => ⟨_, _, rfl, rfl, _, rfl, ite2 (fun g => ?_) (fun g => ?_)⟩⟩
    · exact q c2 HK (kwI.trans (Kw.same (sJ.trans smK))) (wI.same (sJ.trans smK)) (by omega)
    have m100 : m ≤ 100 := by
      have : ¬ (100 < m) := of_decide_eq_false (by simpa using g)
      omega
    have dall : ∀ x ∈ ks, x.dep ≤ 100 := fun x hx => by
      have := hm2 (x.dep : Int) (List.mem_map.mpr ⟨x, hx, rfl⟩)
      omega
    have dp1 := dall (k.put fl1) (by rw [← eks]; simp)
    have dp2 := dall (k.put fl2) (by rw [← eks]; simp)
    have dp3 := dall ((k.put fl1).put fl2) (by rw [← eks]; simp)
    have tK := sJ.trans smK
    have k1 : Kg 100 30000 k := kg.mono (Nat.le_refl _) (by decide)
    have kp1 : Kg 100 30000 (k.put fl1) := ⟨p1o, dp1, by omega⟩
    have kp2 : Kg 100 30000 (k.put fl2) := ⟨p2o, dp2, by omega⟩
    have kp3 : Kg 100 30000 ((k.put fl1).put fl2) := ⟨p3o, dp3, by omega⟩
    have hkK := hkI.keep tK
    have e1K := e1I.keep tK
    have e2K := e2I.keep tK
    have d1K := dFI.keep tK
    have d2K := dGI.keep tK
    have d3K := dI.keep tK
    have wK := wI.same tK
    have kwK := kwI.trans (Kw.same tK)
    -- filled
    refine ⟨_, rfl, _, rfl, _, v, f1, k, fl1, rfl, hkK, e1K, k1, g1, fun a1 HL sL dL => ⟨_, rfl, Nat.zero_le _, fun e ne => ?_⟩⟩
    have sM := sL.trans (@Same.new e _ (.tup []) ne)
    have dM := dL.keep (@Same.new e _ (.tup []) ne)
    have eM : Dt (Ot []) (upd HL e (.tup [])) (.ref e) (fD []) := .tup (ot0 _) upd_same .nil
    generalize upd HL e (.tup []) = HM at sM dM eM ⊢
    refine ⟨_, v, .ref e, k, [], rfl, hkK.keep sM, eM, k1, fg_nil, fun a2 HN sN dN => ?_⟩
    rw [put_nil] at dN
    have sMN := sM.trans sN
    refine ⟨_, rfl, _, rfl, _, v, f1, k, fl1, rfl, hkK.keep sMN, e1K.keep sMN, k1, g1, fun a3 HO sO dO => ⟨big _ (by show (3 : Nat) ≤ 1000; decide), fun q1 nq1 => ?_⟩⟩
    have sP := sMN.trans (sO.trans (@Same.new q1 _ (.lst [a1, a2, a3]) nq1))
    have lP : Dt (Ot []) (upd HO q1 (.lst [a1, a2, a3])) (.ref q1) (.list ([k.put fl1, k, k.put fl1].map Kd.d)) := .lst (ot0 _) upd_same (DtA.keep (.cons ((dM.keep sN).keep sO) (.cons (dN.keep sO) (.cons dO .nil))) (Same.new nq1))
    generalize upd HO q1 (.lst [a1, a2, a3]) = HP at sP lP ⊢
    refine ⟨_, rfl, _, rfl, _, rfl, big _ (by show (3 : Nat) ≤ 1000; decide), fun q2 nq2 => ?_⟩
    have sQ := sP.trans (@Same.new q2 _ (.lst [o1, v, o1]) nq2)
    have lQ : Dt (Ot []) (upd HP q2 (.lst [o1, v, o1])) (.ref q2) (.list ([k.put fl1, k, k.put fl1].map Kd.d)) := .lst (ot0 _) upd_same (DtA.keep (.cons (d1K.keep sP) (.cons (hkK.keep sP) (.cons (d1K.keep sP) .nil))) (Same.new nq2))
    have lP2 := lP.keep (@Same.new q2 _ (.lst [o1, v, o1]) nq2)
    generalize upd HP q2 (.lst [o1, v, o1]) = HQ at sQ lQ lP2 ⊢
    have big3 := kinds_sd (ks := [k.put fl1, k, k.put fl1]) (fun x hx => by
      rcases List.mem_cons.mp hx with z | hx
      · rw [z]; exact kp1.mono (by decide) (Nat.le_refl _)
      · rcases List.mem_cons.mp hx with z | hx
        · rw [z]; exact k1.mono (by decide) (Nat.le_refl _)
        · rw [List.mem_singleton.mp hx]; exact kp1.mono (by decide) (Nat.le_refl _)) (Nat.le_refl _)
    refine ⟨_, _, _, _, rfl, lP2, lQ, big3.1, big3.2.1, big3.2.2, ⟨_, rfl, ifF rfl ?_⟩⟩
    -- filled once more
    refine ⟨_, rfl, _, rfl, _, v, f1, k, fl1, rfl, hkK.keep sQ, e1K.keep sQ, k1, g1, fun b1 HR sR dR => ⟨_, rfl, _, b1, f2, k.put fl1, fl2, rfl, dR, (e2K.keep sQ).keep sR, kp1, g2, fun b2 HS sS dS => ?_⟩⟩
    have sQS := sQ.trans (sR.trans sS)
    refine ⟨_, rfl, _, rfl, _, v, f2, k, fl2, rfl, hkK.keep sQS, e2K.keep sQS, k1, g2, fun b3 HT sT dT => ⟨big _ (by show (2 : Nat) ≤ 1000; decide), fun q3 nq3 => ?_⟩⟩
    have sU := sQS.trans (sT.trans (@Same.new q3 _ (.lst [b2, b3]) nq3))
    have lU : Dt (Ot []) (upd HT q3 (.lst [b2, b3])) (.ref q3) (.list ([(k.put fl1).put fl2, k.put fl2].map Kd.d)) := .lst (ot0 _) upd_same (DtA.keep (.cons (dS.keep sT) (.cons dT .nil)) (Same.new nq3))
    generalize upd HT q3 (.lst [b2, b3]) = HU at sU lU ⊢
    refine ⟨_, rfl, _, rfl, big _ (by show (2 : Nat) ≤ 1000; decide), fun q4 nq4 => ?_⟩
    have sV := sU.trans (@Same.new q4 _ (.lst [o3, o2]) nq4)
    have lV : Dt (Ot []) (upd HU q4 (.lst [o3, o2])) (.ref q4) (.list ([(k.put fl1).put fl2, k.put fl2].map Kd.d)) := .lst (ot0 _) upd_same (DtA.keep (.cons (d3K.keep sU) (.cons (d2K.keep sU) .nil)) (Same.new nq4))
    have lU2 := lU.keep (@Same.new q4 _ (.lst [o3, o2]) nq4)
    generalize upd HU q4 (.lst [o3, o2]) = HV at sV lV lU2 ⊢
    have big2 := kinds_sd (ks := [(k.put fl1).put fl2, k.put fl2]) (fun x hx => by
      rcases List.mem_cons.mp hx with z | hx
      · rw [z]; exact kp3.mono (by decide) (Nat.le_refl _)
      · rw [List.mem_singleton.mp hx]; exact kp2.mono (by decide) (Nat.le_refl _)) (Nat.le_succ _)
    refine ⟨_, _, _, _, rfl, lU2, lV, big2.1, big2.2.1, big2.2.2, ?_⟩
    exact q c2 HV (kwK.trans (Kw.same sV)) (wK.same sV) (by omega)
end
end J2
namespace KB
open PySem L2 PySem.Spec PyProof.Rows
theorem isDk_d {k : Kd} (h : k.okv = true) (d : k.dep ≤ 100) (n : k.noFn = true) : isDk k.d = true := by rw [isDk, isK_d h d, nf_d, n]; rfl
theorem isCk_d {k : Kd} (h : k.okv = true) (d : k.dep ≤ 100) (c : k.closed = true) : isCk k.d = true := by rw [isCk, isK_d h d, cl_d, c]; rfl
def spFv : Sp := fun vs H Q _ => ∃ (F : Addr → Prop) (v : V) (x : Str) (k : Kd), vs = [v] ∧ Dt F H v (.tuple [.str x, k.d]) ∧ x ∈ abc ∧ k.okv = true ∧ k.dep ≤ 100 ∧ sz k.d ≤ 4000000 ∧ k.closed = true ∧ k.noFn = true ∧ ∀ H', Same H H' → Q (.bl true) H'
def spCf : Sp := fun vs H Q _ => ∃ (F : Addr → Prop) (v : V) (fl : List (Str × Kd)), vs = [v] ∧ Dt F H v (fD fl) ∧ Fg fl ∧ ∀ H', Same H H' → Q .non H'
inductive Mp (F : Addr → Prop) (H : Hp) : List (L2.Key × V) → List (Str × Kd) → Prop
  | nil : Mp F H [] []
  | cons {x : Str} {v : V} {k : Kd} {kvs : List (L2.Key × V)} {fl : List (Str × Kd)} (h : Dt F H v k.d) (r : Mp F H kvs fl) : Mp F H ((.inr x, v) :: kvs) ((x, k) :: fl)
theorem Mp.move {F G : Addr → Prop} {H H' : Hp} (k : ∀ a o, F a → H a = some o → G a ∧ H' a = some o) : ∀ {kvs : List (L2.Key × V)} {fl : List (Str × Kd)}, Mp F H kvs fl → Mp G H' kvs fl
  | _, _, .nil => .nil
  | _, _, .cons h r => .cons (h.move k) (r.move k)
theorem Mp.keys {F : Addr → Prop} {H : Hp} : ∀ {kvs : List (L2.Key × V)} {fl : List (Str × Kd)}, Mp F H kvs fl → kvs.map Prod.fst = fl.map fun p => .inr p.1
  | _, _, .nil => rfl
  | _, _, .cons h r => by rw [List.map_cons, List.map_cons, r.keys]
theorem Mp.snoc {F : Addr → Prop} {H : Hp} {x : Str} {v : V} {k : Kd} (h : Dt F H v k.d) : ∀ {kvs : List (L2.Key × V)} {fl : List (Str × Kd)}, Mp F H kvs fl → Mp F H (kvs ++ [(.inr x, v)]) (fl ++ [(x, k)])
  | _, _, .nil => .cons h .nil
  | _, _, .cons q r => .cons q (r.snoc h)
theorem Mp.look {F : Addr → Prop} {H : Hp} (y : Str) : ∀ {kvs : List (L2.Key × V)} {fl : List (Str × Kd)}, Mp F H kvs fl → (valV kvs (.inr y) = none ∧ fget fl y = []) ∨ ∃ v k ks, valV kvs (.inr y) = some v ∧ fget fl y = k :: ks ∧ Dt F H v k.d
  | _, _, .nil => .inl (And.intro rfl rfl)
  | _, _, .cons (x := x) (v := v) (k := k) (kvs := kvs) (fl := fl) h r => by
    by_cases e : x = y
    · subst e
      refine .inr ⟨v, k, fget fl x, ?_, ?_, h⟩
      · simp [valV]
      · unfold fget
        rw [List.filter_cons_of_pos (by simp), List.map_cons]
    · have e1 : valV ((.inr x, v) :: kvs) (.inr y) = valV kvs (.inr y) := by
        have : decide ((Sum.inr x : L2.Key) = .inr y) = false := decide_eq_false fun z => e (Sum.inr.inj z)
        simp only [valV, List.find?, this]
      have e2 : fget ((x, k) :: fl) y = fget fl y := by
        unfold fget
        rw [List.filter_cons_of_neg (by simpa using e)]
      rw [e1, e2]
      exact r.look y
def spPi (n : Nat) : Sp := fun vs H Q _ => ∃ (F : Addr → Prop) (kv : V) (a : Addr) (kvs : List (L2.Key × V)) (k : Kd) (fl : List (Str × Kd)), vs = [kv, .ref a] ∧ Dt F H kv k.d ∧ H a = some (.dK kvs) ∧ Mp F H kvs fl ∧ k.dep ≤ n ∧ ∀ (v : V) (H' : Hp), Same H H' → Dt (Ot []) H' v (k.put fl).d → Q v H'
def lastN (fl : List (Str × Kd)) (i : Nat) : Str := ((("" : Str) :: fl.map Prod.fst)[i]?).getD ""
theorem up_abc : ((("" : Str) :: abc).Pairwise fun a b => decide (a.cps.toList < b.cps.toList) = true) := by decide +kernel
theorem last_up {fl : List (Str × Kd)} (h : (fl.map Prod.fst).Sublist abc) {i : Nat} {p : Str × Kd} (e : fl[i]? = some p) : decide ((lastN fl i).cps.toList < p.1.cps.toList) = true := by
  have pw := up_abc.sublist (List.Sublist.cons₂ ("" : Str) h)
  obtain ⟨il, ie⟩ := List.getElem?_eq_some_iff.mp e
  have i1 : i < (("" : Str) :: fl.map Prod.fst).length := by simp; omega
  have i2 : i + 1 < (("" : Str) :: fl.map Prod.fst).length := by simp; omega
  have := List.pairwise_iff_getElem.mp pw i (i + 1) i1 i2 (by omega)
  have e1 : (("" : Str) :: fl.map Prod.fst)[i + 1] = p.1 := by
    rw [List.getElem_cons_succ, List.getElem_map, ie]
  have e2 : lastN fl i = (("" : Str) :: fl.map Prod.fst)[i] := by
    unfold lastN
    rw [List.getElem?_eq_getElem i1]
    rfl
  rw [e1, ← e2] at this
  exact this
theorem last_next {fl : List (Str × Kd)} {i : Nat} {p : Str × Kd} (e : fl[i]? = some p) : lastN fl (i + 1) = p.1 := by
  unfold lastN
  rw [List.getElem?_cons_succ, List.getElem?_map, e]
  rfl
theorem abc_nodup : abc.Nodup := by decide +kernel
theorem no_key {F : Addr → Prop} {H : Hp} {fl : List (Str × Kd)} (h : (fl.map Prod.fst).Sublist abc) {i : Nat} {p : Str × Kd} (e : fl[i]? = some p) {kvs : List (L2.Key × V)} (m : Mp F H kvs (fl.take i)) : (kvs.any fun kv => decide (kv.1 = .inr p.1)) = false := by
  rw [List.any_eq_false]
  intro kv hk z
  have z : kv.1 = .inr p.1 := of_decide_eq_true z
  have : kv.1 ∈ (fl.take i).map fun p => (Sum.inr p.1 : L2.Key) := by
    rw [← m.keys]
    exact List.mem_map.mpr ⟨kv, hk, rfl⟩
  obtain ⟨q, hq, eq⟩ := List.mem_map.mp this
  rw [z] at eq
  have eq : q.1 = p.1 := Sum.inr.inj eq
  obtain ⟨j, jl, je⟩ := List.getElem_of_mem hq
  rw [List.length_take] at jl
  rw [List.getElem_take] at je
  obtain ⟨il, ie⟩ := List.getElem?_eq_some_iff.mp e
  have nd := abc_nodup.sublist h
  have := (List.pairwise_iff_getElem.mp nd) j i (by simp; omega) (by simp; omega) (by omega)
  apply this
  rw [List.getElem_map, List.getElem_map, ie, je]
  exact eq
end KB
namespace J2
open PySem PySem.Spec PyProof.Rows L2 KB
section
variable {P : Program} {w : World} {K : PySem.W.Frag} {mg : Str → Option Value} {base : Heap} {aV : Addr}
abbrev nFv : List Str := ["value"]
theorem scFv : FnScope nFv ["value"] (defScope (top 23)) := ⟨rfl, rfl, rfl, by decide +kernel, rfl, by decide +kernel, by decide +kernel⟩
theorem ok_fv {f : Addr} {fd : FuncData} (F : FnP K "_fills_a_variable" (top 23) f fd) (B : Bl K mg) (gV : mg "VARIABLES" = some (.ref aV)) (hV : ∀ H, SqT K H aV (abc.map V.str)) (hX : Has P w K mg base "is_text_of" ["value", "texts"] 1 (spTxt K))
    (hA : Has P w K mg base "is_data_kind" ["value"] 5 (spIsG isDk)) (hB : Has P w K mg base "is_closed_kind" ["value"] 5 (spIsG isCk)) : FnOk P w K mg base CX0 6 f fd ["value"] spFv := by
  obtain ⟨fX, fdX, kX, gX, bX, GX⟩ := hX
  obtain ⟨fA, fdA, kA, gA, bA, GA⟩ := hA
  obtain ⟨fB, fdB, kB, gB, bB, GB⟩ := hB
  refine F.ok scFv (fun vs H Q E h => ?_) (fun cdv A outer s H vs Q E hr h => ?_)
  · obtain ⟨F, v, x, k, rfl, _⟩ := h
    rfl
  · obtain ⟨Fa, v, x, k, rfl, hd, hx, hov, hdp, hsz, hcl, hnf, q⟩ := h
    have sc := scFv
    have hrX : Room 1 _ := hr.mono (by omega)
    have hrA : Room 5 _ := hr
    have hrB : Room 5 _ := hr
    refine ⟨_, PSs.nox (pss_cons (ps_if (PW.pt (pw_or (pt_not (pt_val (pe_callB call_isi (by rfl) B.isinstance (by decide +kernel) (pa_cons (pv 0) (pa_cons (pe_bltn (v := .ty "tuple") (by rfl) B.tuple (by decide +kernel) rfl) pa_nil))))) (pw_or (pt_cmpR op_ne (pe_callB call_len (by rfl) B.len (by decide +kernel) (pa_cons (pv 0) pa_nil)) pe_int (nomark _)) (pw_or1 (pt_not (pt_val (pe_call GX hrX rfl gX kX bX .nil pass0 (pa_cons (pe_ix ix_tup (pv 0) pe_int (fun _ _ => rfl)) (pa_cons (pe_glob (v := .ref aV) rfl gV rfl) pa_nil))))))))) (pss_one (ps_ret pe_bl)) pss_nil) (pss_one (ps_ret (pe_and (pe_call GA hrA rfl gA kA bA .nil pass0 (pa_cons (pe_ix ix_tup (pv 0) pe_int (fun _ _ => rfl)) pa_nil)) (pe_one (pe_call GB hrB rfl gB kB bB .nil pass0 (pa_cons (pe_ix ix_tup (pv 0) pe_int (fun _ _ => rfl)) pa_nil))))))), ?_⟩
    obtain ⟨ty, tyx, k1, k2, k3, k4⟩ := tyD (K := K) hd
    obtain ⟨a, xs, rfl, fa, ha, r⟩ := hd.tupI
    obtain ⟨p1, p2, rfl, e1, e2⟩ := r.two
    have ee := e1.strI
    subst ee
    have tx : txB (.str x) abc = true := by simpa [txB] using hx
    refine ⟨_, rfl, _, _, ty, _, _, rfl, .ty _, tyx, k3, _, rfl, ifF rfl ?_⟩
    refine ⟨_, rfl, _, _, rfl, .inr ⟨_, SqT.of ha, rfl⟩, rfl, _, rfl, ifF rfl ?_⟩
    refine ⟨_, rfl, a, _, 0, _, rfl, rfl, SqT.of ha, atI_nat (j := 0) rfl, Fa, _, aV, _, abc, rfl, e1, hV H, ⟨_, rfl, ifF (by rw [tx]; rfl) ?_⟩⟩
    refine ⟨_, rfl, a, _, 1, _, rfl, rfl, SqT.of ha, rfl, Fa, p2, k.d, rfl, e2, hsz, fun H1 s1 => ⟨_, rfl, ifT (isDk_d hov hdp hnf) ?_⟩⟩
    refine ⟨_, rfl, a, _, 1, _, rfl, rfl, SqT.of (s1 _ _ ha), rfl, Fa, p2, k.d, rfl, e2.keep s1, hsz, fun H2 s2 => ?_⟩
    rw [isCk_d hov hdp hcl]
    exact q H2 (s1.trans s2)
abbrev nCf : List Str := ["filling", "last", "index", "pair"]
theorem scCf : FnScope nCf ["filling"] (defScope (top 22)) := ⟨rfl, rfl, rfl, by decide +kernel, rfl, by decide +kernel, by decide +kernel⟩
theorem ok_cf {f : Addr} {fd : FuncData} (F : FnP K "check_filling" (top 22) f fd) (B : Bl K mg) (hEn : mg "enumerate" = none) (hV : Has P w K mg base "_fills_a_variable" ["value"] 6 spFv) : FnOk P w K mg base CX0 7 f fd ["filling"] spCf := by
  obtain ⟨fV, fdV, kV, gV, bV, GV⟩ := hV
  refine F.ok scCf (fun vs H Q E h => ?_) (fun cdv A outer s H vs Q E hr h => ?_)
  · obtain ⟨F, v, fl, rfl, _⟩ := h
    rfl
  · obtain ⟨Fa, v, fl, rfl, hd0, hf, q⟩ := h
    have sc := scCf
    have hrV : Room 6 _ := hr
    have hd : Dt (Ot []) H v (fD fl) := hd0.any
    refine ⟨_, PSs.nox (pss_cons (ps_if (pt_not (pt_val (pe_callB call_isi (by rfl) B.isinstance (by decide +kernel) (pa_cons (pv 0) (pa_cons (pe_bltn (v := .ty "tuple") (by rfl) B.tuple (by decide +kernel) rfl) pa_nil))))) (pss_one (ps_never)) pss_nil) (pss_cons (ps_set (i := 1) sc.nd rfl (Or.inl rfl) pe_str) (pss_one (ps_for PassesOwn.never rfl (KZ.pi_enumT (by rfl) hEn (pa_cons (pv 0) pa_nil)) (pg_tup rfl (pgs_cons (pg_name (i := 2) sc.nd rfl (Or.inl rfl)) (pgs_cons (pg_name (i := 3) sc.nd rfl (Or.inl rfl)) pgs_nil))) (pss_cons (ps_if (PW.pt (pw_or (pt_not (pt_val (pe_call GV hrV rfl gV kV bV .nil pass0 (pa_cons (pv 3) pa_nil)))) (pw_or1 (pt_cmpR op_le_str (pe_ix ix_tup (pv 3) pe_int (fun _ _ => rfl)) (pv 1) (nomark _))))) (pss_one (ps_never)) pss_nil) (pss_one (ps_set (i := 1) sc.nd rfl (Or.inl rfl) (pe_ix ix_tup (pv 3) pe_int (fun _ _ => rfl))))))))), ?_⟩
    obtain ⟨ty, tyx, k1, k2, k3, k4⟩ := tyD (K := K) hd
    obtain ⟨a, xs, rfl, fa, ha, r⟩ := hd.tupI
    have lx := r.length
    rw [List.length_map] at lx
    refine ⟨_, rfl, _, _, ty, _, _, rfl, .ty _, tyx, k3, _, rfl, ifF rfl ?_⟩
    refine ⟨_, rfl, a, xs, rfl, SqT.of ha, KZ.for_enumT (K := K) (a := a) (xs := xs) (fun i σ H2 => Same H H2 ∧ ∃ u2 u3 : Option V, σ = [some (.ref a), some (.str (lastN fl i)), u2, u3]) ⟨Same.refl H, none, none, rfl⟩ (fun i σ H2 hP => SqT.of (hP.1 a _ ha)) ?_ ?_⟩
    · rintro i x T σ H2 hi ⟨sm, u2, u3, rfl⟩ nT
      obtain ⟨dd, hdd, dx⟩ := r.get hi
      obtain ⟨p, hp, rfl⟩ : ∃ p, fl[i]? = some p ∧ PyData.tuple [.str p.1, p.2.d] = dd := by
        rw [List.getElem?_map] at hdd
        cases e : fl[i]? with
        | none => rw [e] at hdd; cases hdd
        | some p => rw [e] at hdd; exact ⟨p, rfl, Option.some.inj hdd⟩
      obtain ⟨kg, kc, kn⟩ := hf.kg p (List.mem_of_getElem? hp)
      have s1 := sm.trans (@Same.new T _ (.tup [.int (i : Nat), x]) nT)
      have hT : (upd H2 T (.tup [.int (i : Nat), x])) T = some (.tup [.int (i : Nat), x]) := upd_same
      generalize upd H2 T (.tup [.int (i : Nat), x]) = H3 at s1 hT ⊢
      have xin : p.1 ∈ abc := hf.sub.subset (List.mem_map.mpr ⟨p, List.mem_of_getElem? hp, rfl⟩)
      have dx3 := dx.keep s1
      refine ⟨T, _, rfl, SqT.of hT, rfl, _, _, rfl, _, _, rfl, rfl, ?_⟩
      have ksz := kg.sd.ln
      refine ⟨_, rfl, _, x, p.1, p.2, rfl, dx3, xin, kg.ov, by have := kg.dp; omega, by omega, kc, kn, fun H4 s4 => ⟨_, rfl, ifF rfl ?_⟩⟩
      have dx4 := dx3.keep s4
      obtain ⟨pa, pxs, rfl, fp, hpa, rp⟩ := dx4.tupI
      obtain ⟨p1, p2, rfl, e1, e2⟩ := rp.two
      have ee := e1.strI
      subst ee
      refine ⟨_, rfl, pa, _, 0, _, rfl, rfl, SqT.of hpa, atI_nat (j := 0) rfl, _, rfl, _, _, rfl, rfl, _, rfl, ifF (by rw [last_up hf.sub hp]; rfl) ?_⟩
      refine ⟨_, rfl, pa, _, 0, _, rfl, rfl, SqT.of hpa, atI_nat (j := 0) rfl, s1.trans s4, _, _, by rw [last_next hp]; rfl⟩
    · rintro σ H2 ⟨sm, u2, u3, rfl⟩
      exact q H2 sm
abbrev nPi : List Str := ["kind", "told", "part"]
theorem scPi : FnScope nPi ["kind", "told"] (defScope (top 24)) := ⟨rfl, rfl, rfl, by decide +kernel, rfl, by decide +kernel, by decide +kernel⟩
theorem pi_body (n : Nat) {f : Addr} {fd : FuncData} {spR : Sp} (F : FnP K "_put_in" (top 24) f fd) (B : Bl K mg)
    (gR : mg "_put_in" = some (.ref f)) (bR : Binds K fd ["kind", "told"] []) (GR : FnOk P w K mg base CX0 (1 + n) f fd ["kind", "told"] spR)
    (hR : ∀ m, n = m + 1 → ∀ vs H Q, spPi m vs H Q E0 → spR vs H Q E0) : FnOk P w K mg base CX0 (1 + n + 1) f fd ["kind", "told"] (spPi n) := by
  refine F.ok scPi (fun vs H Q E h => ?_) (fun cdv A outer s H vs Q E hr h => ?_)
  · obtain ⟨F, kv, a, kvs, k, fl, rfl, _⟩ := h
    rfl
  · obtain ⟨Fa, kv, ad, kvs, k, fl, rfl, hk0, hD0, hm0, hdp, q⟩ := h
    have sc := scPi
    have hrR : Room (1 + n) _ := hr
    have kR := F.kp
    have hk : Dt (Ot []) H kv k.d := hk0.any
    have hm : Mp (Ot []) H kvs fl := hm0.move fun a o f e => ⟨fun z => (by cases z), e⟩
    have stN : ∀ (H' : Hp) p, H' p = none → Ot [] p := fun _ p _ z => by cases z
    refine ⟨_, PSs.nox (pss_cons (ps_if (pt_cmpR op_eq (pe_ix ix_tup (pv 0) pe_int (fun _ _ => rfl)) pe_str (nomark _)) (pss_one (ps_ret (pe_dget2 (hu_of hr) (pv 1) (pe_ix ix_tup (pv 0) pe_int (fun _ _ => rfl)) (pv 0) ⟨rfl, rfl, rfl, rfl⟩))) pss_nil) (pss_one (ps_ret (pe_op op_catA (pe_tup (pa_cons (pe_ix ix_tup (pv 0) pe_int (fun _ _ => rfl)) pa_nil)) (pe_callTy call_tuple_of (by rfl) B.tuple (by decide +kernel) (pa_cons (pe_lc (own := [("part", 2)]) (g := gName 2) (tt := tYes) (by rfl) sc.nd (pi_tup (pe_slice sl_tupA (pv 0) (po_some pe_int) po_none)) (blkOk_by (own := [("part", 2)]) (N := nPi) (sc := (defScope (top 24))) (by decide +kernel)) (fun _ _ _ _ _ => (pg_name (i := 2) sc.nd rfl (Or.inl rfl))) (fun _ _ _ _ _ => pts_nil) (fun _ _ _ _ _ => (pe_call GR hrR rfl gR kR bR .nil pass0 (pa_cons (pv 2) (pa_cons (pv 1) pa_nil))))) pa_nil)))))), ?_⟩
    have big : ∀ k : Nat, k ≤ 1000 → k ≤ sizeLine := fun k h => Nat.le_of_lt (small1000 h)
    cases ev : k.isVar with
    | true =>
      obtain ⟨x, rfl⟩ : ∃ x, k = .var x := by
        cases k <;> first | exact ⟨_, rfl⟩ | cases ev
      obtain ⟨a, rfl, fa, ka⟩ := kd_at hk
      refine ⟨_, rfl, a, _, 0, _, rfl, rfl, SqT.of ka, rfl, rfl, _, rfl, ifT (decide_eq_true rfl) ?_⟩
      refine ⟨_, rfl, ad, rfl, .inl ⟨_, .inl hD0⟩, _, rfl, a, _, 1, _, rfl, rfl, SqT.of ka, rfl, _, rfl, _, DGet.k (k := .inr x) hD0, ?_⟩
      have ep : (Kd.var x).put fl = (fget fl x).headD (.var x) := rfl
      rw [ep] at q
      rcases hm.look x with ⟨l1, l2⟩ | ⟨v1, k1, ks, l1, l2, d1⟩
      · rw [l2] at q
        rw [l1]
        exact q _ H (Same.refl H) hk
      · rw [l2] at q
        rw [l1]
        exact q _ H (Same.refl H) d1
    | false =>
      obtain ⟨e3, _⟩ := Kd.d_eqv ev
      have pk := put_kids (fl := fl) ev
      rw [e3] at hk
      obtain ⟨a, xs, rfl, fa, ha, r⟩ := id hk.tupI
      cases r with
      | @cons x xs' _ _ h0 r' =>
      have e0 := h0.strI
      subst e0
      refine ⟨_, rfl, a, _, 0, _, rfl, rfl, SqT.of ha, atI_nat (j := 0) rfl, rfl, _, rfl, ifF (decide_eq_false fun z => Kd.word_var ev (V.str.inj z)) ?_⟩
      refine ⟨_, rfl, a, _, 0, _, rfl, rfl, SqT.of ha, atI_nat (j := 0) rfl, big _ (by show (1 : Nat) ≤ 1000; decide), fun u1 n1 => ?_⟩
      have s1 := @Same.new u1 _ (.tup [.str k.word]) n1
      have d1 : Dt (Ot []) (upd H u1 (.tup [.str k.word])) (.ref u1) (.tuple [.str k.word]) := layD (stN _) n1 (.cons (.str _) .nil)
      have hk1 := hk.keep s1
      have hD1 := s1 _ _ hD0
      have hm1 : Mp (Ot []) (upd H u1 (.tup [.str k.word])) kvs fl := hm.move fun a o f e => ⟨f, s1 _ _ e⟩
      generalize upd H u1 (.tup [.str k.word]) = H1 at s1 d1 hk1 hD1 hm1 ⊢
      refine slC (K := K) 1 (stN _) rfl hk1 fun u HD sD dD => ?_
      have sHD := s1.trans sD
      obtain ⟨b, ys, rfl, fb, hb, rb⟩ := dD.tupI
      have rb' : DtA (Ot []) HD ys (k.kids.map Kd.d) := rb
      have lx := rb'.length
      rw [List.length_map] at lx
      have k2l := Kd.kids_len k
      refine ⟨b, rfl, ⟨_, SqT.of hb⟩, fun D nD => lc_tup (K := K) (a := b) (xs := ys) (fun i H2 => Same HD H2 ∧ ∃ acc, H2 D = some (.lst acc) ∧ DtA (Ot [D]) H2 acc ((k.kids.take i).map fun x => (x.put fl).d)) ⟨Same.new nD, [], upd_same, .nil⟩
        (fun i H2 _ hP => SqT.of (hP.1 b _ hb)) ?_ ?_⟩
      · rintro i y H2 hi ⟨sm, acc, hD, da⟩
        obtain ⟨dd, hdd, dx⟩ := rb'.get hi
        obtain ⟨k2, hk2, rfl⟩ : ∃ k2, k.kids[i]? = some k2 ∧ k2.d = dd := by
          rw [List.getElem?_map] at hdd
          cases e : k.kids[i]? with
          | none => rw [e] at hdd; cases hdd
          | some k2 => rw [e] at hdd; exact ⟨k2, rfl, Option.some.inj hdd⟩
        have kl := Kd.kids_dep k2 (List.mem_of_getElem? hk2)
        (obtain ⟨m, rfl⟩ : ∃ m, n = m + 1 := ⟨n - 1, by omega⟩)
        have la := da.length
        rw [List.length_map, List.length_take] at la
        refine ⟨rfl, ?_⟩
        refine iteT (B := Same HD H2 ∧ ∃ acc, H2 D = some (.lst acc) ∧ DtA (Ot [D]) H2 acc ((k.kids.take (i + 1)).map fun x => (x.put fl).d)) ?_
        refine ⟨_, rfl, _, rfl, hR m rfl _ _ _ ⟨_, y, ad, kvs, k2, fl, rfl, dx.keep sm, sm _ _ (sD _ _ hD1), hm1.move fun a o f e => ⟨f, sm _ _ (sD _ _ e)⟩, by omega, fun v3 H3 s3 d3 => ?_⟩⟩
        have hD3 := s3 _ _ hD
        refine ⟨acc, hD3, Nat.lt_of_le_of_lt (by omega : _ ≤ 3) (by decide), fun b o e => ?_, acc ++ [v3], upd_same, ?_⟩
        · rw [upd_ne (ne_of_none e nD)]
          exact s3 b o (sm b o e)
        · rw [put_row fl _ i k2 hk2]
          have kk : Kp [D] H3 (upd H3 D (.lst (acc ++ [v3]))) := Kp.put (by simp)
          exact ((da.keep s3).kp kk).append (.cons ((kd_off hD3 d3).kp kk) .nil)
      · rintro H2 ⟨sm, acc, hD, da⟩
        rw [lx, List.take_length] at da
        refine ⟨D, acc, rfl, .inl ⟨SqL.of hD, fun l nl => ?_⟩⟩
        have s4 := @Same.new l _ (.tup acc) nl
        have d4 : Dt (Ot []) (upd H2 l (.tup acc)) (.ref l) (.tuple (k.kids.map fun x => (x.put fl).d)) := layD (stN _) nl da.any
        have d5 : Dt (Ot []) (upd H2 l (.tup acc)) (.ref u1) (.tuple [.str k.word]) := (((d1.keep sD).keep sm).keep s4)
        refine catD (K := K) (stN _) d5 d4 (by rw [List.length_map]; show 1 + _ ≤ _; omega) fun v6 H6 s6 d6 => ?_
        refine q v6 H6 (sHD.trans (sm.trans (s4.trans s6))) ?_
        rw [pk]
        exact d6
theorem ok_pi {f : Addr} {fd : FuncData} (F : FnP K "_put_in" (top 24) f fd) (B : Bl K mg)
    (gR : mg "_put_in" = some (.ref f)) (bR : Binds K fd ["kind", "told"] []) : ∀ n : Nat, FnOk P w K mg base CX0 (1 + n + 1) f fd ["kind", "told"] (spPi n)
  | 0 => pi_body 0 (spR := fun _ _ _ _ => False) F B gR bR ⟨fun _ _ _ _ h => h.elim, fun _ _ _ _ _ _ _ _ _ _ _ _ _ h => h.elim⟩ fun m e => by cases e
  | n + 1 => pi_body (n + 1) F B gR bR (ok_pi F B gR bR n) fun m e => by cases e; exact fun _ _ _ h => h
abbrev nFl : List Str := ["kind", "filling", "var", "told"]
theorem scFl : FnScope nFl ["kind", "filling"] (defScope (top 21)) := ⟨rfl, rfl, rfl, by decide +kernel, rfl, by decide +kernel, by decide +kernel⟩
theorem ok_fl {f : Addr} {fd : FuncData} (F : FnP K "filled" (top 21) f fd) (B : Bl K mg) (hK : Has P w K mg base "is_kind" ["value"] 5 (spIsG isK)) (hC : Has P w K mg base "check_filling" ["filling"] 7 spCf)
    (hP : Has P w K mg base "_put_in" ["kind", "told"] (1 + 100 + 1) (spPi 100)) : FnOk P w K mg base CX0 103 f fd ["kind", "filling"] spFl := by
  obtain ⟨fK, fdK, kK, gK, bK, GK⟩ := hK
  obtain ⟨fC, fdC, kC, gC, bC, GC⟩ := hC
  obtain ⟨fP, fdP, kP, gP, bP, GP⟩ := hP
  refine F.ok scFl (fun vs H Q E h => ?_) (fun cdv A outer s H vs Q E hr h => ?_)
  · obtain ⟨F, kv, fv, k, fl, rfl, _⟩ := h
    rfl
  · obtain ⟨Fa, kv, fv, k, fl, rfl, hk0, hf0, kg, hf, q⟩ := h
    have sc := scFl
    have hrK : Room 5 _ := hr.mono (by omega)
    have hrC : Room 7 _ := hr.mono (by omega)
    have hrP : Room (1 + 100 + 1) _ := hr
    have hk : Dt (Ot []) H kv k.d := hk0.any
    have hfd : Dt (Ot []) H fv (fD fl) := hf0.any
    have ksz := kg.sd.ln
    refine ⟨_, PSs.nox (pss_cons (ps_if (pt_not (pt_val (pe_call GK hrK rfl gK kK bK .nil pass0 (pa_cons (pv 0) pa_nil)))) (pss_one (ps_never)) pss_nil) (pss_cons (ps_expr (pe_call GC hrC rfl gC kC bC .nil pass0 (pa_cons (pv 1) pa_nil))) (pss_one (ps_ret (pe_call GP hrP rfl gP kP bP .nil pass0 (pa_cons (pv 0) (pa_cons (pe_dc (own := [("var", 2), ("told", 3)]) (tt := tYes) (by rfl) sc.nd (pi_tup (pv 1)) (blkOk_by (own := [("var", 2), ("told", 3)]) (N := nFl) (sc := (defScope (top 21))) (by decide +kernel)) (fun _ _ _ _ _ => (pgT (K := K) (n := 2) rfl rfl (pgs_cons (pg_name (i := 2) sc.nd rfl (Or.inl rfl)) (pgs_cons (pg_name (i := 3) sc.nd rfl (Or.inl rfl)) pgs_nil)))) (fun _ _ _ _ _ => pts_nil) (fun _ _ _ _ _ => (pv 2)) (fun _ _ _ _ _ => (pv 3))) pa_nil))))))), ?_⟩
    refine ⟨_, rfl, _, kv, k.d, rfl, hk, by omega, fun H1 s1 => ⟨_, rfl, ifF (by rw [isK_d kg.ov kg.dp]; rfl) ?_⟩⟩
    refine ⟨_, rfl, _, fv, fl, rfl, hfd.keep s1, hf, fun H2 s2 => ?_⟩
    have s02 := s1.trans s2
    have hfd2 := hfd.keep s02
    obtain ⟨a, xs, rfl, fa, ha, r⟩ := hfd2.tupI
    have lx := r.length
    rw [List.length_map] at lx
    have fl3 := fg_len hf
    refine ⟨_, rfl, _, rfl, a, rfl, ⟨_, SqT.of ha⟩, fun D nD => dc_tup (K := K) (a := a) (xs := xs) (fun i H3 => Same H2 H3 ∧ ∃ kvs, H3 D = some (.dK kvs) ∧ Mp (Ot [D]) H3 kvs (fl.take i)) ⟨Same.new nD, [], upd_same, .nil⟩
      (fun i H3 _ hP => SqT.of (hP.1 a _ ha)) ?_ ?_⟩
    · rintro i y H3 hi ⟨sm, kvs, hD, hm⟩
      obtain ⟨dd, hdd, dx⟩ := r.get hi
      obtain ⟨p, hp, rfl⟩ : ∃ p, fl[i]? = some p ∧ PyData.tuple [.str p.1, p.2.d] = dd := by
        rw [List.getElem?_map] at hdd
        cases e : fl[i]? with
        | none => rw [e] at hdd; cases hdd
        | some p => rw [e] at hdd; exact ⟨p, rfl, Option.some.inj hdd⟩
      obtain ⟨pa, pxs, rfl, fp, hpa, rp⟩ := dx.tupI
      obtain ⟨p1, p2, rfl, e1, e2⟩ := rp.two
      have ee := e1.strI
      subst ee
      have lk : kvs.length = (fl.take i).length := by
        have := congrArg List.length hm.keys
        rwa [List.length_map, List.length_map] at this
      rw [List.length_take] at lk
      refine ⟨pa, _, rfl, SqT.of (sm pa _ hpa), rfl, _, _, rfl, _, _, rfl, rfl, rfl, ?_⟩
      refine iteT (B := Same H2 H3 ∧ ∃ kvs, H3 D = some (.dK kvs) ∧ Mp (Ot [D]) H3 kvs (fl.take (i + 1))) ?_
      refine ⟨_, rfl, _, rfl, kvs, .inr p.1, rfl, hD, Nat.lt_of_le_of_lt (by omega : _ ≤ 3) (by decide), fun b o e => ?_, kvs ++ [(.inr p.1, p2)], ?_, ?_⟩
      · rw [upd_ne (ne_of_none e nD)]
        exact sm b o e
      · rw [upd_same, putK, if_neg (by rw [no_key hf.sub hp hm]; exact Bool.false_ne_true)]
      · have kk : Kp [D] H3 (upd H3 D (.dK (putK kvs (.inr p.1) p2))) := Kp.put (by simp)
        have tk : fl.take (i + 1) = fl.take i ++ [p] := by rw [List.take_add_one, hp]; rfl
        rw [tk]
        have e3 : Dt (Ot [D]) H3 p2 p.2.d := (e2.wide nD).keep sm
        exact ((hm.snoc e3).move fun a o f e => ⟨f, kk a o f e⟩ : Mp _ _ _ (fl.take i ++ [(p.1, p.2)]))
    · rintro H3 ⟨sm, kvs, hD, hm⟩
      rw [lx, List.take_length] at hm
      have s03 := s02.trans sm
      exact ⟨Ot [], kv, D, kvs, k, fl, rfl, hk.keep s03, hD, hm.move fun a o f e => ⟨fun z => (by cases z), e⟩, kg.dp, fun v H' s' d' => q v H' (s03.trans s') d'⟩
end
end J2
namespace J2
open PySem PySem.Spec PyProof.Rows L2 KB
def lawL : List (Str × Nat) := [("_law_well", 26), ("_law_draw", 27), ("_law_pick", 28), ("_law_same", 29), ("_law_odd", 30), ("_law_kind", 31), ("_law_is_headed", 32), ("_law_is_formed", 33), ("_law_deep_kind", 34), ("_law_is_kind", 35), ("_law_words_in", 36), ("_law_is_data", 37), ("_law_is_closed", 38), ("_law_bent", 39), ("_law_spoilt", 40), ("_law_tower", 41), ("_law_wide", 42), ("_law_bent_part", 43), ("_law_filling", 44), ("_law_put", 45), ("_law_is_judged", 46), ("_law_is_told", 47), ("_law_right", 48), ("law", 49)]
def proL : List (Str × Nat) := [("is_kind", 9), ("is_data_kind", 10), ("is_closed_kind", 11), ("depth_of_kind", 12), ("variables_of", 13), ("parts_of_kind", 14), ("is_text_of", 15), ("_is_kind_without", 16), ("_told_parts", 17), ("_parts_with_levels", 18), ("_has_form", 19), ("filled", 21), ("check_filling", 22), ("_fills_a_variable", 23), ("_put_in", 24)]
def dG (x : Str) (i : Nat) : He.DefD := ⟨(x, none), x, x, defArgs (top i), defBody (top i), defScope (top i), [], []⟩
def fn : List He.DefD := (lawL ++ proL).map fun p => dG p.1 p.2
def blL : List Str := ["int", "abs", "divmod", "len", "repr", "isinstance", "range", "tuple", "zip", "min", "max", "all", "list", "str", "bool", "sorted", "enumerate"]
def fa : List He.Fa := ((lawL ++ proL).map fun p => .glo p.1) ++ [.glo "WORDS_BY_LENGTH", .glo "VARIABLES", .glo "TRUTH", .int "DEEPEST" 100] ++ blL.map .free
def wA (K : PySem.W.Frag) : Addr := He.ga K "WORDS_BY_LENGTH"
def dAt (K : PySem.W.Frag) (i : Nat) : Addr := match K.lookup (wA K) with
  | some ⟨_, _, .dict es _, _⟩ => (match es.toList[i]? with
    | some e => (match e.val with
      | .ref a => a
      | _ => 0)
    | none => 0)
  | _ => 0
def entB (K : PySem.W.Frag) (e : DictEntry) (k : Int) (i : Nat) : Bool := decide (e.hash = hashInt k) && (keyIs (.inl k) e.key && He.relB (.ref (dAt K i)) e.val)
def dictB (K : PySem.W.Frag) : Bool := match K.lookup (wA K) with
  | some ⟨.type c, none, .dict es _, sl⟩ => decide (c = "dict") && (decide (sl.size = 0) && (match es.toList with
    | [e1, e2, e3] => entB K e1 1 0 && (entB K e2 2 1 && entB K e3 3 2)
    | _ => false))
  | _ => false
def tupAt (K : PySem.W.Frag) (a : Addr) (vs : List V) : Bool := match K.lookup a with
  | some ⟨.type c, _, .seq its _, _⟩ => decide (c = "tuple") && (decide (its.size ≤ sizeLine) && He.relAll vs its.toList)
  | _ => false
def tT (K : PySem.W.Frag) : Addr := He.ga K "TRUTH"
def tEl (K : PySem.W.Frag) (i : Nat) : Addr := match K.lookup (tT K) with
  | some ⟨_, _, .seq its _, _⟩ => (match (its.toList)[i]? with
    | some (.ref a) => a
    | _ => 0)
  | _ => 0
def trB (K : PySem.W.Frag) : Bool := tupAt K (tT K) [.str "either", .ref (tEl K 1), .ref (tEl K 2)] && (tupAt K (tEl K 1) [.str "unit"] && tupAt K (tEl K 2) [.str "unit"])
def tuB (K : PySem.W.Frag) : Bool := tupAt K (dAt K 0) ((["unit", "num"] : List Str).map V.str) && (tupAt K (dAt K 1) ((["var", "list"] : List Str).map V.str) && (tupAt K (dAt K 2) ((["pair", "either", "fun"] : List Str).map V.str) && tupAt K (He.ga K "VARIABLES") (abc.map V.str)))
def exB (K : PySem.W.Frag) : Bool := (K.lookup sysModules).isSome && (!(wA K == sysModules) && (dictB K && (tuB K && trB K)))
theorem tupAt_ok {K : PySem.W.Frag} {a : Addr} {vs : List V} (h : tupAt K a vs = true) (H : Hp) : SqT K H a vs := by
  unfold tupAt at h
  cases q : K.lookup a with
  | none =>
    rw [q] at h
    cases h
  | some o =>
    obtain ⟨oc, od, dt, osl⟩ := o
    rw [q] at h
    cases oc with
    | type c =>
      cases dt with
      | seq its n =>
        obtain ⟨h1, h2⟩ := He.ba (show (decide (c = "tuple") && (decide (its.size ≤ sizeLine) && He.relAll vs its.toList)) = true from h)
        obtain ⟨h3, h4⟩ := He.ba h2
        exact .inr ⟨_, its, n, q, congrArg Value.type (of_decide_eq_true h1), rfl, of_decide_eq_true h3, He.relAll_ok h4⟩
      | _ => cases h
    | _ => cases dt <;> cases h
theorem entB_ok {P : Program} {w : World} {K : PySem.W.Frag} {e : DictEntry} {k : Int} {i : Nat} (h : entB K e k i = true) : e.hash = (mixKind P w).hash (.inl k) ∧ (mixKind P w).is (.inl k) e.key = true ∧ e.val = .ref (dAt K i) := by
  obtain ⟨h1, h2⟩ := He.ba h
  obtain ⟨h3, h4⟩ := He.ba h2
  exact ⟨of_decide_eq_true h1, h3, He.relB_ok h4⟩
theorem dictB_ok {P : Program} {w : World} {K : PySem.W.Frag} (hs : (wA K == sysModules) = false) (h : dictB K = true) : KI P w K (wA K) [(.inl 1, .ref (dAt K 0)), (.inl 2, .ref (dAt K 1)), (.inl 3, .ref (dAt K 2))] := by
  unfold dictB at h
  cases q : K.lookup (wA K) with
  | none =>
    rw [q] at h
    cases h
  | some o =>
    obtain ⟨oc, od, dt, osl⟩ := o
    rw [q] at h
    cases oc with
    | type c =>
      cases od with
      | some d => (cases dt <;> cases h)
      | none =>
        cases dt with
        | dict es n =>
          obtain ⟨h1, h2⟩ := He.ba (show (decide (c = "dict") && (decide (osl.size = 0) && (match es.toList with
            | [e1, e2, e3] => entB K e1 1 0 && (entB K e2 2 1 && entB K e3 3 2)
            | _ => false))) = true from h)
          obtain ⟨h3, h4⟩ := He.ba h2
          have ec : c = "dict" := of_decide_eq_true h1
          have esl : osl = #[] := Array.eq_empty_of_size_eq_zero (of_decide_eq_true h3)
          subst ec esl
          obtain ⟨e1, e2, e3, el⟩ : ∃ e1 e2 e3, es.toList = [e1, e2, e3] := by
            rcases el : es.toList with _ | ⟨e1, _ | ⟨e2, _ | ⟨e3, _ | ⟨e4, r⟩⟩⟩⟩
            · rw [el] at h4; cases h4
            · rw [el] at h4; cases h4
            · rw [el] at h4; cases h4
            · exact ⟨e1, e2, e3, rfl⟩
            · rw [el] at h4; cases h4
          rw [el] at h4
          obtain ⟨h5, h6⟩ := He.ba (show (entB K e1 1 0 && (entB K e2 2 1 && entB K e3 3 2)) = true from h4)
          obtain ⟨h7, h8⟩ := He.ba h6
          obtain ⟨a1, a2, a3⟩ := entB_ok (P := P) (w := w) h5
          obtain ⟨b1, b2, b3⟩ := entB_ok (P := P) (w := w) h7
          obtain ⟨c1, c2, c3⟩ := entB_ok (P := P) (w := w) h8
          refine ⟨hs, [(.inl 1, .ref (dAt K 0)), (.inl 2, .ref (dAt K 1)), (.inl 3, .ref (dAt K 2))], .cons ⟨rfl, rfl⟩ (.cons ⟨rfl, rfl⟩ (.cons ⟨rfl, rfl⟩ .nil)), fun hp hK => ⟨_, es, n, hK _ _ q, ⟨rfl, rfl, rfl⟩, rfl, fun e he => ?_, ?_, by show ([Sum.inl 1, Sum.inl 2, Sum.inl 3] : List L2.Key).Nodup; decide⟩⟩
          · have m : e ∈ es.toList := Array.mem_toList_iff.mpr he
            rw [el] at m
            simp only [List.mem_cons, List.not_mem_nil, or_false] at m
            rcases m with rfl | rfl | rfl
            · exact ⟨_, a2, a1⟩
            · exact ⟨_, b2, b1⟩
            · exact ⟨_, c2, c1⟩
          · rw [el]
            exact .cons a2 a3 (.cons b2 b3 (.cons c2 c3 .nil))
        | _ => cases h
    | _ => (cases od <;> cases dt <;> cases h)
def frS (g : Addr → Option Obj) : PySem.W.Frag := He.frG g (sysModules :: He.asD g 5)
def obsS (K : PySem.W.Frag) : He.AlD × Bool := (He.obsD fa fn K, exB K)
def saysS (K : PySem.W.Frag) : Prop := obsS K = (He.valD fn, true)
def hk : PySem.W.Hook where
  α := He.AlD × Bool
  obs := fun s => obsS (frS s.heap.get?)
  val := fun _ => (He.valD fn, true)
  says := fun _ h => ∃ K : PySem.W.Frag, K.In h ∧ saysS K
  of := fun _ _ e => ⟨_, He.frG_in, e⟩
  keeps := fun _ _ _ ⟨K, hK, c⟩ kp => ⟨K, PySem.W.Frag.In.keeps hK kp, c⟩
abbrev R : PySem.W.OpenRow := PySem.W.OpenLaw.row PySem.Challenge.rw_bykindalone_k02_whole_kinds_of_anything
def ob (s : PySem.W.SharedT) : hk.α := obsS (frS (HandSHeadRun.getT s))
theorem ob_eq (s : PySem.W.SharedT) : ob s = hk.obs s.abs := by
  have e : HandSHeadRun.getT s = s.abs.heap.get? := funext (HandSHeadRun.getT_eq s)
  unfold ob
  rw [e] <;> rfl
def loose : List Str := (lawL.take 23).map (·.1) ++ proL.map (·.1) ++ (["KindError", "InvalidKind", "InvalidFilling", "VARIABLES", "WORDS_BY_LENGTH", "DEEPEST", "TRUTH", "__name__"] : List Str)
theorem run_by (w : World) : ∀ b : Bool, HandSHeadRun.RunEq R (PySem.W.view R.prog [49]) hk ob 30000 loose (w.withFollow "special-get-raises" b)
  | true => by
    intro os
    kernel_rfl
  | false => by
    intro os
    kernel_rfl
theorem run (w : World) : HandSHeadRun.RunEq R (PySem.W.view R.prog [49]) hk ob 30000 loose w := by
  have := run_by w (w.params.followText "special-get-raises")
  (rwa [World.withFollow_self] at this)
end J2
namespace J2
open PySem PySem.Spec PyProof.Rows L2 KB
section
variable {P : Program} {w : World} {K : PySem.W.Frag} {h : Heap} {mg : Str → Option Value} {base : Heap}
structure Top (P : Program) (w : World) (K : PySem.W.Frag) (mg : Str → Option Value) : Prop where
  bl : Bl K mg
  so : mg "sorted" = none
  en : mg "enumerate" = none
  pf : ∃ tk, Pf P w K mg (wA K) (dAt K 0) (dAt K 1) (dAt K 2) (He.ga K "VARIABLES") tk
  hV : ∀ H, SqT K H (He.ga K "VARIABLES") (abc.map V.str)
  gTr : mg "TRUTH" = some (.ref (tT K))
  hTr : ∀ H, Dp K H (.ref (tT K)) truthK.d
  fns : ∀ p ∈ lawL ++ proL, mg p.1 = some (.ref (He.ga K p.1))
  def_ : ∀ p ∈ lawL ++ proL, ∃ fd, FnP K p.1 (top p.2) (He.ga K p.1) fd
theorem top_of (X : K.In h) (G : h.Ns mainGlobals mg) (c : saysS K) : Top P w K mg := by
  have c1 : He.SaysD fa fn K := congrArg (fun z : He.AlD × Bool => z.1) c
  have c2 : exB K = true := congrArg (fun z : He.AlD × Bool => z.2) c
  have fact : ∀ f : He.Fa, f ∈ fa → f.ok K = true := fun f hf => by
    obtain ⟨i, hi⟩ := List.getElem?_of_mem hf
    exact c1.fact i hi
  have free : ∀ x, x ∈ blL → mg x = none := fun x hx => He.free_ok X G (fact (.free x) (List.mem_append_right _ (List.mem_map.mpr ⟨x, hx, rfl⟩)))
  have bl : ∀ x, blL.contains x = true → mg x = none := fun x hx => free x (List.contains_iff_mem.mp hx)
  have glo : ∀ x, He.Fa.glo x ∈ fa → mg x = some (.ref (He.ga K x)) := fun x hx => He.glo_ok X G (fact _ hx)
  obtain ⟨e1, e2⟩ := He.ba (show ((K.lookup sysModules).isSome && (!(wA K == sysModules) && (dictB K && (tuB K && trB K)))) = true from c2)
  obtain ⟨e3, e4⟩ := He.ba e2
  obtain ⟨e5, e6⟩ := He.ba e4
  obtain ⟨e7, e8⟩ := He.ba e6
  obtain ⟨t1, t2⟩ := He.ba e7
  obtain ⟨t3, t4⟩ := He.ba t2
  obtain ⟨t5, t6⟩ := He.ba t4
  obtain ⟨r1, r2⟩ := He.ba e8
  obtain ⟨r3, r4⟩ := He.ba r2
  have low : (wA K == sysModules) = false := by simpa using e3
  obtain ⟨tk, hD⟩ := He.int_ok X G (fact (.int "DEEPEST" 100) (List.mem_append_left _ (List.mem_append_right _ (by simp))))
  have gW : mg "WORDS_BY_LENGTH" = some (.ref (wA K)) := glo "WORDS_BY_LENGTH" (List.mem_append_left _ (List.mem_append_right _ (by simp)))
  have gV : mg "VARIABLES" = some (.ref (He.ga K "VARIABLES")) := glo "VARIABLES" (List.mem_append_left _ (List.mem_append_right _ (by simp)))
  have gT : mg "TRUTH" = some (.ref (tT K)) := glo "TRUTH" (List.mem_append_left _ (List.mem_append_right _ (by simp)))
  refine ⟨⟨Option.isSome_iff_exists.mp e1, bl _ (by decide +kernel), bl _ (by decide +kernel), bl _ (by decide +kernel), bl _ (by decide +kernel), bl _ (by decide +kernel), bl _ (by decide +kernel), bl _ (by decide +kernel), bl _ (by decide +kernel), bl _ (by decide +kernel), bl _ (by decide +kernel), bl _ (by decide +kernel), bl _ (by decide +kernel), bl _ (by decide +kernel), bl _ (by decide +kernel), bl _ (by decide +kernel)⟩, bl _ (by decide +kernel), bl _ (by decide +kernel), ⟨tk, ⟨gW, dictB_ok low e5, fun H => tupAt_ok t1 H, fun H => tupAt_ok t3 H, fun H => tupAt_ok t5 H, gV, hD⟩⟩, fun H => tupAt_ok t6 H, gT, fun H => ?_, fun p hp => ?_, fun p hp => ?_⟩
  · exact .tup (tupAt_ok r1 H) (.cons (.str _) (.cons (.tup (tupAt_ok r3 H) (.cons (.str _) .nil)) (.cons (.tup (tupAt_ok r4 H) (.cons (.str _) .nil)) .nil)))
  · exact glo p.1 (List.mem_append_left _ (List.mem_append_left _ (List.mem_map.mpr ⟨p, hp, rfl⟩)))
  · obtain ⟨i, hi⟩ := List.getElem?_of_mem (show dG p.1 p.2 ∈ fn from List.mem_map.mpr ⟨p, hp, rfl⟩)
    obtain ⟨fd, F⟩ := c1.def_ i hi
    exact ⟨fd, F⟩
theorem Top.fn_ (T : Top P w K mg) (x : Str) (i : Nat) (h : (lawL ++ proL).contains (x, i) = true) : ∃ fd, FnP K x (top i) (He.ga K x) fd ∧ mg x = some (.ref (He.ga K x)) := by
  have m := List.contains_iff_mem.mp h
  obtain ⟨fd, F⟩ := T.def_ _ m
  exact ⟨fd, F, T.fns _ m⟩
theorem law_all (T : Top P w K mg) : ∃ fd : FuncData, (∀ (s : Shared) (v : Value), BindsTo s fd ⟨[v], []⟩ [("_law_script", v)]) ∧ ∀ base : Heap, FnG P w K mg base 182 (He.ga K "law") fd ["_law_script"] (spLaw K) := by
  have B := T.bl
  obtain ⟨tk, pf⟩ := T.pf
  obtain ⟨fdWe, FWe, gWe⟩ := T.fn_ "_law_well" 26 (by decide +kernel)
  obtain ⟨fdDr, FDr, gDr⟩ := T.fn_ "_law_draw" 27 (by decide +kernel)
  obtain ⟨fdPi, FPi, gPi⟩ := T.fn_ "_law_pick" 28 (by decide +kernel)
  obtain ⟨fdSa, FSa, gSa⟩ := T.fn_ "_law_same" 29 (by decide +kernel)
  obtain ⟨fdOd, FOd, gOd⟩ := T.fn_ "_law_odd" 30 (by decide +kernel)
  obtain ⟨fdKi, FKi, gKi⟩ := T.fn_ "_law_kind" 31 (by decide +kernel)
  obtain ⟨fdHd, FHd, gHd⟩ := T.fn_ "_law_is_headed" 32 (by decide +kernel)
  obtain ⟨fdFo, FFo, gFo⟩ := T.fn_ "_law_is_formed" 33 (by decide +kernel)
  obtain ⟨fdDe, FDe, gDe⟩ := T.fn_ "_law_deep_kind" 34 (by decide +kernel)
  obtain ⟨fdIk, FIk, gIk⟩ := T.fn_ "_law_is_kind" 35 (by decide +kernel)
  obtain ⟨fdWi, FWi, gWi⟩ := T.fn_ "_law_words_in" 36 (by decide +kernel)
  obtain ⟨fdId, FId, gId⟩ := T.fn_ "_law_is_data" 37 (by decide +kernel)
  obtain ⟨fdIc, FIc, gIc⟩ := T.fn_ "_law_is_closed" 38 (by decide +kernel)
  obtain ⟨fdBe, FBe, gBe⟩ := T.fn_ "_law_bent" 39 (by decide +kernel)
  obtain ⟨fdSp, FSp, gSp⟩ := T.fn_ "_law_spoilt" 40 (by decide +kernel)
  obtain ⟨fdTo, FTo, gTo⟩ := T.fn_ "_law_tower" 41 (by decide +kernel)
  obtain ⟨fdWd, FWd, gWd⟩ := T.fn_ "_law_wide" 42 (by decide +kernel)
  obtain ⟨fdBp, FBp, gBp⟩ := T.fn_ "_law_bent_part" 43 (by decide +kernel)
  obtain ⟨fdFi, FFi, gFi⟩ := T.fn_ "_law_filling" 44 (by decide +kernel)
  obtain ⟨fdPu, FPu, gPu⟩ := T.fn_ "_law_put" 45 (by decide +kernel)
  obtain ⟨fdJd, FJd, gJd⟩ := T.fn_ "_law_is_judged" 46 (by decide +kernel)
  obtain ⟨fdTl, FTl, gTl⟩ := T.fn_ "_law_is_told" 47 (by decide +kernel)
  obtain ⟨fdRt, FRt, gRt⟩ := T.fn_ "_law_right" 48 (by decide +kernel)
  obtain ⟨fdLa, FLa, gLa⟩ := T.fn_ "law" 49 (by decide +kernel)
  obtain ⟨fdIK, FIK, gIK⟩ := T.fn_ "is_kind" 9 (by decide +kernel)
  obtain ⟨fdDK, FDK, gDK⟩ := T.fn_ "is_data_kind" 10 (by decide +kernel)
  obtain ⟨fdCK, FCK, gCK⟩ := T.fn_ "is_closed_kind" 11 (by decide +kernel)
  obtain ⟨fdDP, FDP, gDP⟩ := T.fn_ "depth_of_kind" 12 (by decide +kernel)
  obtain ⟨fdVO, FVO, gVO⟩ := T.fn_ "variables_of" 13 (by decide +kernel)
  obtain ⟨fdPK, FPK, gPK⟩ := T.fn_ "parts_of_kind" 14 (by decide +kernel)
  obtain ⟨fdTX, FTX, gTX⟩ := T.fn_ "is_text_of" 15 (by decide +kernel)
  obtain ⟨fdKW, FKW, gKW⟩ := T.fn_ "_is_kind_without" 16 (by decide +kernel)
  obtain ⟨fdTP, FTP, gTP⟩ := T.fn_ "_told_parts" 17 (by decide +kernel)
  obtain ⟨fdPL, FPL, gPL⟩ := T.fn_ "_parts_with_levels" 18 (by decide +kernel)
  obtain ⟨fdHF, FHF, gHF⟩ := T.fn_ "_has_form" 19 (by decide +kernel)
  obtain ⟨fdFL, FFL, gFL⟩ := T.fn_ "filled" 21 (by decide +kernel)
  obtain ⟨fdCF, FCF, gCF⟩ := T.fn_ "check_filling" 22 (by decide +kernel)
  obtain ⟨fdFV, FFV, gFV⟩ := T.fn_ "_fills_a_variable" 23 (by decide +kernel)
  obtain ⟨fdPI, FPI, gPI⟩ := T.fn_ "_put_in" 24 (by decide +kernel)
  have bWe : Binds K fdWe ["_law_script", "_law_turn"] [] := FWe.bindsN fun _ _ _ _ _ _ us hl => match us, hl with | [_, _], _ => rfl
  have bDr : Binds K fdDr ["_law_well_here", "_law_many"] [] := FDr.bindsN fun _ _ _ _ _ _ us hl => match us, hl with | [_, _], _ => rfl
  have bPi : Binds K fdPi ["_law_well_here", "_law_some"] [] := FPi.bindsN fun _ _ _ _ _ _ us hl => match us, hl with | [_, _], _ => rfl
  have bSa : Binds K fdSa nSame [] := FSa.bindsN fun _ _ _ _ _ _ us hl => match us, hl with | [_, _], _ => rfl
  have bOd : Binds K fdOd ["_law_well_here"] [] := FOd.bindsN fun _ _ _ _ _ _ us hl => match us, hl with | [_], _ => rfl
  have bKi : Binds K fdKi ["_law_well_here", "_law_deep", "_law_which"] [] := FKi.bindsN fun _ _ _ _ _ _ us hl => match us, hl with | [_, _, _], _ => rfl
  have bHd : Binds K fdHd ["_law_thing", "_law_many", "_law_words"] [] := FHd.bindsN fun _ _ _ _ _ _ us hl => match us, hl with | [_, _, _], _ => rfl
  have bFo : Binds K fdFo ["_law_thing"] [] := FFo.bindsN fun _ _ _ _ _ _ us hl => match us, hl with | [_], _ => rfl
  have bDe : Binds K fdDe ["_law_kind_here"] [] := FDe.bindsN fun _ _ _ _ _ _ us hl => match us, hl with | [_], _ => rfl
  have bIk : Binds K fdIk ["_law_thing"] [] := FIk.bindsN fun _ _ _ _ _ _ us hl => match us, hl with | [_], _ => rfl
  have bWi : Binds K fdWi ["_law_kind_here"] [] := FWi.bindsN fun _ _ _ _ _ _ us hl => match us, hl with | [_], _ => rfl
  have bId : Binds K fdId ["_law_thing"] [] := FId.bindsN fun _ _ _ _ _ _ us hl => match us, hl with | [_], _ => rfl
  have bIc : Binds K fdIc ["_law_thing"] [] := FIc.bindsN fun _ _ _ _ _ _ us hl => match us, hl with | [_], _ => rfl
  have bBe : Binds K fdBe ["_law_well_here", "_law_thing"] [] := FBe.bindsN fun _ _ _ _ _ _ us hl => match us, hl with | [_, _], _ => rfl
  have bSp : Binds K fdSp ["_law_well_here", "_law_thing"] [] := FSp.bindsN fun _ _ _ _ _ _ us hl => match us, hl with | [_, _], _ => rfl
  have bTo : Binds K fdTo ["_law_well_here"] [] := FTo.bindsN fun _ _ _ _ _ _ us hl => match us, hl with | [_], _ => rfl
  have bWd : Binds K fdWd ["_law_well_here"] [] := FWd.bindsN fun _ _ _ _ _ _ us hl => match us, hl with | [_], _ => rfl
  have bBp : Binds K fdBp ["_law_well_here", "_law_kind_here"] [] := FBp.bindsN fun _ _ _ _ _ _ us hl => match us, hl with | [_, _], _ => rfl
  have bFi : Binds K fdFi ["_law_well_here"] [] := FFi.bindsN fun _ _ _ _ _ _ us hl => match us, hl with | [_], _ => rfl
  have bPu : Binds K fdPu ["_law_kind_here", "_law_filling_here"] [] := FPu.bindsN fun _ _ _ _ _ _ us hl => match us, hl with | [_, _], _ => rfl
  have bJd : Binds K fdJd ["_law_thing", "_law_by_name"] [] := FJd.bindsN fun _ _ _ _ _ _ us hl => match us, hl with | [_, _], _ => rfl
  have bTl : Binds K fdTl ["_law_well_here", "_law_kind_here"] [] := FTl.bindsN fun _ _ _ _ _ _ us hl => match us, hl with | [_, _], _ => rfl
  have bRt : Binds K fdRt ["_law_well_here"] [] := FRt.bindsN fun _ _ _ _ _ _ us hl => match us, hl with | [_], _ => rfl
  have bIK : Binds K fdIK ["value"] [] := FIK.bindsN fun _ _ _ _ _ _ us hl => match us, hl with | [_], _ => rfl
  have bDK : Binds K fdDK ["value"] [] := FDK.bindsN fun _ _ _ _ _ _ us hl => match us, hl with | [_], _ => rfl
  have bCK : Binds K fdCK ["value"] [] := FCK.bindsN fun _ _ _ _ _ _ us hl => match us, hl with | [_], _ => rfl
  have bDP : Binds K fdDP ["kind"] [] := FDP.bindsN fun _ _ _ _ _ _ us hl => match us, hl with | [_], _ => rfl
  have bVO : Binds K fdVO ["kind"] [] := FVO.bindsN fun _ _ _ _ _ _ us hl => match us, hl with | [_], _ => rfl
  have bPK : Binds K fdPK ["kind"] [] := FPK.bindsN fun _ _ _ _ _ _ us hl => match us, hl with | [_], _ => rfl
  have bTX : Binds K fdTX ["value", "texts"] [] := FTX.bindsN fun _ _ _ _ _ _ us hl => match us, hl with | [_, _], _ => rfl
  have bKW : Binds K fdKW ["value", "word"] [] := FKW.bindsN fun _ _ _ _ _ _ us hl => match us, hl with | [_, _], _ => rfl
  have bTP : Binds K fdTP ["kind"] [] := FTP.bindsN fun _ _ _ _ _ _ us hl => match us, hl with | [_], _ => rfl
  have bPL : Binds K fdPL ["value"] [] := FPL.bindsN fun _ _ _ _ _ _ us hl => match us, hl with | [_], _ => rfl
  have bHF : Binds K fdHF ["value"] [] := FHF.bindsN fun _ _ _ _ _ _ us hl => match us, hl with | [_], _ => rfl
  have bFL : Binds K fdFL ["kind", "filling"] [] := FFL.bindsN fun _ _ _ _ _ _ us hl => match us, hl with | [_, _], _ => rfl
  have bCF : Binds K fdCF ["filling"] [] := FCF.bindsN fun _ _ _ _ _ _ us hl => match us, hl with | [_], _ => rfl
  have bFV : Binds K fdFV ["value"] [] := FFV.bindsN fun _ _ _ _ _ _ us hl => match us, hl with | [_], _ => rfl
  have bPI : Binds K fdPI ["kind", "told"] [] := FPI.bindsN fun _ _ _ _ _ _ us hl => match us, hl with | [_, _], _ => rfl
  have b := FunD.bindsA (ps := ["_law_script"]) FLa fun _ _ _ _ _ _ us hl => match us, hl with | [_], _ => rfl
  refine ⟨fdLa, fun s v => b s [v] rfl, fun base => ?_⟩
  have hD : Has P w K mg base "_law_draw" ["_law_well_here", "_law_many"] 1 spDraw := ⟨_, fdDr, FDr.kp, gDr, bDr, ok_draw FDr B⟩
  have GP : FnOk P w K mg base CX0 2 (He.ga K "_law_pick") fdPi ["_law_well_here", "_law_some"] (spPick K) := ok_pick FPi B FDr gDr bDr
  have hP : Has P w K mg base "_law_pick" ["_law_well_here", "_law_some"] 2 (spPick K) := ⟨_, fdPi, FPi.kp, gPi, bPi, GP⟩
  have hO : Has P w K mg base "_law_odd" ["_law_well_here"] 3 (spOdd oddL) := ⟨_, fdOd, FOd.kp, gOd, bOd, ok_odd FOd FPi gPi bPi GP⟩
  have hK : Has P w K mg base "_law_kind" ["_law_well_here", "_law_deep", "_law_which"] 10 (fun vs H Q E => ∃ n, n ≤ 6 ∧ spKd2 n vs H Q E) :=
    ⟨_, fdKi, FKi.kp, gKi, bKi, fnok_ex fun n hn => (ok_kd2 FKi B FDr gDr bDr FPi gPi bPi gKi bKi n).mono (by omega)⟩
  have hHd : Has P w K mg base "_law_is_headed" ["_law_thing", "_law_many", "_law_words"] 1 (spHd K) := ⟨_, fdHd, FHd.kp, gHd, bHd, ok_hd FHd B⟩
  have hFo : Has P w K mg base "_law_is_formed" ["_law_thing"] (1 + 170 + 1) (spFo 170) := ⟨_, fdFo, FFo.kp, gFo, bFo, ok_fo FFo B hHd gFo bFo 170⟩
  have hDe : Has P w K mg base "_law_deep_kind" ["_law_kind_here"] (1 + 170 + 1) (spDe 170) := ⟨_, fdDe, FDe.kp, gDe, bDe, ok_de FDe B gDe bDe 170⟩
  have hDe2 : Has P w K mg base "_law_deep_kind" ["_law_kind_here"] (1 + 110 + 1) (spDe 110) := ⟨_, fdDe, FDe.kp, gDe, bDe, ok_de FDe B gDe bDe 110⟩
  have hIk : Has P w K mg base "_law_is_kind" ["_law_thing"] (1 + 170 + 2) (spIk 170) := ⟨_, fdIk, FIk.kp, gIk, bIk, ok_ik 170 FIk hFo hDe⟩
  have hWi : Has P w K mg base "_law_words_in" ["_law_kind_here"] (1 + 170 + 1) (spWi 170) := ⟨_, fdWi, FWi.kp, gWi, bWi, ok_wi FWi gWi bWi 170⟩
  have hWi2 : Has P w K mg base "_law_words_in" ["_law_kind_here"] (1 + 110 + 1) (spWi 110) := ⟨_, fdWi, FWi.kp, gWi, bWi, ok_wi FWi gWi bWi 110⟩
  have hId : Has P w K mg base "_law_is_data" ["_law_thing"] (1 + 170 + 3) (spId 170) := ⟨_, fdId, FId.kp, gId, bId, ok_id 170 FId hIk hWi⟩
  have hIc : Has P w K mg base "_law_is_closed" ["_law_thing"] (1 + 170 + 3) (spIc 170) := ⟨_, fdIc, FIc.kp, gIc, bIc, ok_ic 170 FIc hIk hWi⟩
  have hBe : Has P w K mg base "_law_bent" ["_law_well_here", "_law_thing"] 4 spBent := ⟨_, fdBe, FBe.kp, gBe, bBe, ok_bent FBe B hD hP hO⟩
  have hSp : Has P w K mg base "_law_spoilt" ["_law_well_here", "_law_thing"] 5 spSpo := ⟨_, fdSp, FSp.kp, gSp, bSp, ok_spo FSp B hD hBe⟩
  have hTo : Has P w K mg base "_law_tower" ["_law_well_here"] 11 spTow2 := ⟨_, fdTo, FTo.kp, gTo, bTo, ok_tow FTo B hK hP⟩
  have hBp : Has P w K mg base "_law_bent_part" ["_law_well_here", "_law_kind_here"] 11 spBp := ⟨_, fdBp, FBp.kp, gBp, bBp, ok_bp FBp B hK hD⟩
  have hWd : Has P w K mg base "_law_wide" ["_law_well_here"] 12 spWide := ⟨_, fdWd, FWd.kp, gWd, bWd, ok_wide FWd B hK hP hBp⟩
  have hFi : Has P w K mg base "_law_filling" ["_law_well_here"] 11 spFil := ⟨_, fdFi, FFi.kp, gFi, bFi, ok_fil FFi B hK hP hD⟩
  have hPu : Has P w K mg base "_law_put" ["_law_kind_here", "_law_filling_here"] (1 + 110 + 1) (spPut 110) := ⟨_, fdPu, FPu.kp, gPu, bPu, ok_put FPu B gPu bPu 110⟩
  have hS : HasG P w K mg base "_law_same" nSame 1 spSame := ⟨_, fdSa, FSa.kp, gSa, bSa, ok_same FSa B⟩
  have hM : HasG P w K mg base "_law_same" nSame 1 (spSameT K) := ⟨_, fdSa, FSa.kp, gSa, bSa, ok_sameT FSa B⟩
  -- the program
  have hX : Has P w K mg base "is_text_of" ["value", "texts"] 1 (spTxt K) := ⟨_, fdTX, FTX.kp, gTX, bTX, ok_txt FTX B⟩
  have hHf : Has P w K mg base "_has_form" ["value"] 2 spHf := ⟨_, fdHF, FHF.kp, gHF, bHF, ok_hf FHF B pf T.hV hX⟩
  have hPl : Has P w K mg base "_parts_with_levels" ["value"] 3 spPw := ⟨_, fdPL, FPL.kp, gPL, bPL, ok_pwl FPL pf hHf⟩
  have hKw : Has P w K mg base "_is_kind_without" ["value", "word"] 4 spKwG := ⟨_, fdKW, FKW.kp, gKW, bKW, ok_kw FKW B hPl⟩
  have hTp : Has P w K mg base "_told_parts" ["kind"] 4 spTp := ⟨_, fdTP, FTP.kp, gTP, bTP, ok_tp FTP hPl⟩
  have GIK : FnOk P w K mg base CX0 5 (He.ga K "is_kind") fdIK ["value"] (spIsG isK) := (ok_is FIK hPl).mono (by decide)
  have GDK : FnOk P w K mg base CX0 5 (He.ga K "is_data_kind") fdDK ["value"] (spIsG isDk) := ok_dk FDK hKw
  have GCK : FnOk P w K mg base CX0 5 (He.ga K "is_closed_kind") fdCK ["value"] (spIsG isCk) := ok_ck FCK hKw
  have GDP : FnOk P w K mg base CX0 5 (He.ga K "depth_of_kind") fdDP ["kind"] spDpk := ok_dp FDP B hTp
  have hPK : Has P w K mg base "parts_of_kind" ["kind"] 5 spPk := ⟨_, fdPK, FPK.kp, gPK, bPK, ok_pk FPK hTp⟩
  have GVO : FnOk P w K mg base CX0 6 (He.ga K "variables_of") fdVO ["kind"] spVo := ok_vo FVO B T.so hPK
  have hIK : Has P w K mg base "is_kind" ["value"] 5 (spIsG isK) := ⟨_, fdIK, FIK.kp, gIK, bIK, GIK⟩
  have hDK : Has P w K mg base "is_data_kind" ["value"] 5 (spIsG isDk) := ⟨_, fdDK, FDK.kp, gDK, bDK, GDK⟩
  have hCK : Has P w K mg base "is_closed_kind" ["value"] 5 (spIsG isCk) := ⟨_, fdCK, FCK.kp, gCK, bCK, GCK⟩
  have hFV : Has P w K mg base "_fills_a_variable" ["value"] 6 spFv := ⟨_, fdFV, FFV.kp, gFV, bFV, ok_fv FFV B pf.gV T.hV hX hDK hCK⟩
  have hCF : Has P w K mg base "check_filling" ["filling"] 7 spCf := ⟨_, fdCF, FCF.kp, gCF, bCF, ok_cf FCF B T.en hFV⟩
  have hPI : Has P w K mg base "_put_in" ["kind", "told"] (1 + 100 + 1) (spPi 100) := ⟨_, fdPI, FPI.kp, gPI, bPI, ok_pi FPI B gPI bPI 100⟩
  have GFL : FnOk P w K mg base CX0 150 (He.ga K "filled") fdFL ["kind", "filling"] spFl := (ok_fl FFL B hIK hCF hPI).mono (by decide)
  -- the worlds
  have hJd : HasG P w K mg base "_law_is_judged" ["_law_thing", "_law_by_name"] 175 spJd := ⟨_, fdJd, FJd.kp, gJd, bJd, ok_jd FJd B FIK gIK bIK GIK FDK gDK bDK GDK FCK gCK bCK GCK hIk hId hIc hS⟩
  have hTl : HasG P w K mg base "_law_is_told" ["_law_well_here", "_law_kind_here"] 180 spTold := ⟨_, fdTl, FTl.kp, gTl, bTl, ok_to FTl B FDP gDP bDP GDP FVO gVO bVO GVO FFL gFL bFL GFL hWi2 hDe2 hFi hPu hS⟩
  have hRt : HasG P w K mg base "_law_right" ["_law_well_here"] 181 spRt := ⟨_, fdRt, FRt.kp, gRt, bRt, ok_rt FRt B T.gTr T.hTr hTo hWd hK hP hD hIk hSp hO hJd hTl hM⟩
  exact ok_law FLa B ⟨_, fdWe, FWe.kp, gWe, bWe, ok_well FWe B⟩ hRt
end
end J2
open PySem PyProof.Rows PySem.W PySem.Calls
set_option maxRecDepth 99999 in
set_option maxHeartbeats 0 in
theorem PySem.Challenge.cw_bykindalone_k02_whole_kinds_of_anything_holds : PySem.Challenge.rw_bykindalone_k02_whole_kinds_of_anything.Holds := by
  w_on; o_law
  refine HandSHeadRun.head_any (r := OpenLaw.row PySem.Challenge.rw_bykindalone_k02_whole_kinds_of_anything) (q := view (OpenLaw.row PySem.Challenge.rw_bykindalone_k02_whole_kinds_of_anything).prog [49]) (H := J2.hk) (ob := J2.ob) (M := 30000) (loose := J2.loose)
    (d := HandSHeadRun.topDef (OpenLaw.row PySem.Challenge.rw_bykindalone_k02_whole_kinds_of_anything).prog 49) (kwd := []) J2.ob_eq
    (by kernel_rfl) (fun s => by kernel_rfl) J2.run (by kernel_rfl) (by kernel_rfl) (by kernel_rfl) (by rfl) (by first | assumption | decide +kernel) (by decide +kernel) ⟨rfl, rfl, rfl, rfl, rfl, by decide +kernel⟩ ?hw ?hc
  case hw => w_witness2
  case hc =>
    refine KB.walk_ofG (l := PySem.Challenge.rw_bykindalone_k02_whole_kinds_of_anything) (n := 63) (k := 182) (x := "_law_script") rfl (by decide) (by kernel_rfl) ⟨rfl, by decide, by decide⟩ ?F
    intro w mg fa h Y G hmg0
    obtain ⟨K, KX, c⟩ := Y
    have T := J2.top_of (P := (PySem.Challenge.rw_bykindalone_k02_whole_kinds_of_anything).prog) (w := w) KX G c
    have atLaw : mg ("law" : PySem.Str) = some (.ref fa) := by
      have e : (HandSHeadRun.topDef (OpenLaw.row PySem.Challenge.rw_bykindalone_k02_whole_kinds_of_anything).prog 49).name = ("law" : PySem.Str) := by kernel_rfl
      rw [← e]
      exact hmg0
    have hga : fa = He.ga K "law" := by
      have z := atLaw.symm.trans (T.fns ("law", 49) (List.contains_iff_mem.mp (by decide +kernel)))
      cases z
      rfl
    subst hga
    obtain ⟨fd, hb, hF⟩ := J2.law_all (P := (PySem.Challenge.rw_bykindalone_k02_whole_kinds_of_anything).prog) (w := w) T
    exact ⟨K, fd, J2.spLaw K, KX, hb, fun H a ns hl _ hS => ⟨a, ns, rfl, hS, fun _ => rfl⟩, fun base _ _ => hF base⟩
