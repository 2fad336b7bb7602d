package harden_test

import "testing"

// The functions of these texts have values that are wrong for a while from a list (2=load 4 1) whose index, 1, is always right.
var nets = []struct {
	what string
	text string
	want string
}{
	{"nothing", "; 1=5; ret 1", "; ; ; "},
	{"what is public", "; 1=get 1; 2=5; 3=div 1 2; if 3 to 1 3 to 2 | 4; ret 4 | ; set 0 1; ret 1", "; ; ; "},
	{"a Load", "; 1=get 1; 2=load 4 1; ret 2", "2; ; 2; "},
	{"what is secret is no place", "; 1=get 2; 2=load 4 1; 3=load 5 2; 4=add 2 3; ret 4", "; ; ; "},
	{"what is secret of both is no place", "; 1=get 2; 2=5; 3=load 4 2; 4=add 1 3; 5=load 4 4; 6=load 4 3; ret 5", "3 6; 3>6; 3 6; 3"},
	{"what is public is no place", "; 1=5; 2=load 4 1; 3=load 4 1; 4=add 2 3; ret 1", "2 3 4; 2>4 3>4; 2 3; "},

	{"a Bin", "; 1=5; 2=load 4 1; 3=add 2 1; 4=sub 1 3; ret 4", "2 3 4; 2>3 3>4; 2; "},
	{"a value twice in an instruction", "; 1=5; 2=load 4 1; 3=mul 2 2; ret 3", "2 3; 2>3; 2; "},
	{"a Load of a Load", "; 1=5; 2=load 4 1; 3=load 3 2; ret 3", "2 3; 2>3; 2 3; 2"},
	{"a Store makes nothing", "; 1=5; 2=load 4 1; store 3 2 2; 3=load 3 1; ret 3", "2 3; ; 2 3; 2"},
	{"a Set makes nothing", "; 1=5; 2=load 4 1; set 0 2; 3=get 0; ret 3", "2 3; ; 2 3; "},
	{"a Call's Args and value", "; 1=5; 2=load 4 1; 3=call 0; ret 3", "2; ; 2; "},
	{"several ways from one, and to one", "; 1=5; 2=load 4 1; 3=add 2 1; 4=add 1 2; 5=add 3 4; 6=xor 5 2; ret 6", "2 3 4 5 6; 2>3 2>4 2>6 3>5 4>5 5>6; 2; "},

	{"a Get of what isn't written", "; 1=get 0; 2=get 1; 3=add 1 2; 4=load 3 3; ret 4", "4; ; 4; "},
	{"a Get of what is Set", "; 1=get 0; 2=get 1; set 0 2; ret 1", "1; ; 1; "},
	{"a Get of what is Set in a block that can't be come to", "; 1=get 0; ret 1 | ; set 0 1; ret 1", "1; ; 1; "},
	{"Gets where there is a Store", "; 1=get 0; 2=get 1; 3=get 2; store 3 1 2; ret 1", "1 2; ; 1 2; 1"},
	{"a Bin and a parameter don't begin", "; 1=get 0; set 0 1; 2=add 1 1; to 1 2 | 3; ret 3", "1 2 3; 1>2 2>3; 1; "},

	{"the index of a Load", "; 1=5; 2=load 4 1; 3=load 4 2; ret 3", "2 3; 2>3; 2 3; 2"},
	{"the index of a Load of what is secret", "; 1=5; 2=load 4 1; 3=load 5 2; ret 3", "2; ; 2; 2"},
	{"the index of a Store, not what it lets be", "; 1=5; 2=load 4 1; 3=load 4 1; store 3 2 3; ret 3", "2 3; ; 2 3; 2"},
	{"a dividend", "; 1=5; 2=load 4 1; 3=div 2 1; ret 3", "2 3; 2>3; 2; 2"},
	{"a divisor", "; 1=5; 2=load 4 1; 3=mod 1 2; ret 3", "2 3; 2>3; 2; 2"},
	{"both sides", "; 1=5; 2=load 4 1; 3=load 4 1; 4=div 3 2; ret 4", "2 3 4; 2>4 3>4; 2 3; 2 3"},
	{"one divided by itself", "; 1=5; 2=load 4 1; 3=mod 2 2; ret 3", "2 3; 2>3; 2; 2"},
	{"other ops let nothing be known", "; 1=5; 2=load 4 1; 3=shl 2 2; 4=lt 3 2; set 0 4; ret 4", "2 3 4; 2>3 2>4 3>4; 2; "},
	{"a branch", "; 1=5; 2=load 4 1; if 2 to 1 to 1 | ; ret 1", "2; ; 2; 2"},
	{"a branch's Args, a jump's, a return", "; 1=5; 2=load 4 1; if 1 to 1 2 to 1 2 | 3; to 2 3 | 4; ret 4", "2 3 4; 2>3 3>4; 2; "},
	{"one that becomes known again and again", "; 1=5; 2=load 4 1; 3=load 4 2; 4=load 4 2; store 3 2 1; if 2 to 1 to 1 | ; 5=div 1 2; ret 5", "2 3 4 5; 2>3 2>4 2>5; 2 3 4; 2"},
	{"order of To is that of places", "; 1=5; 2=load 4 1; 3=load 4 1; 4=load 4 1; 5=div 4 3; if 2 to 1 to 1 | ; ret 5", "2 3 4 5; 3>5 4>5; 2 3 4; 2 3 4"},
	{"becomes known in a block that can't be come to", "; 1=5; 2=load 4 1; ret 2 | ; 3=load 4 2; 4=div 3 2; ret 4", "2; ; 2; 2"},

	{"a block's parameters, then its instructions", "; 9=5; 8=load 4 9; 7=load 4 9; to 1 8 7 | 5 6; 2=add 6 5; 1=load 4 2; ret 1", "8 7 5 6 2 1; 8>5 7>6 5>2 6>2 2>1; 8 7 1; 2"},
	{"blocks in their order, not in that of the ways", "; 1=5; 2=load 4 1; to 3 2 | 6; 7=sub 6 1; ret 7 | 5; to 1 5 | 3; 4=add 3 3; to 2 4", "2 6 7 5 3 4; 2>3 6>7 5>6 3>4 4>5; 2; "},
	{"places where nothing comes", "; 1=5; 2=load 4 1; ret 2 | ; 3=load 4 1; 4=add 3 2; to 2 4 | 5; 6=load 4 5; ret 6", "2; ; 2; "},
	{"a way from where nothing comes", "; 1=5; 2=load 4 1; 3=load 4 1; to 1 2 | 4; if 4 to 2 to 2 | ; ret 4 | ; to 1 3", "2 3 4; 2>4 3>4; 2 3; 4"},
	{"a way from where nothing comes of what is made there", "; 1=5; 2=load 4 1; to 1 2 | 4; ret 4 | ; 3=load 4 1; to 1 3", "2 4; 2>4; 2; "},
	{"a way from where nothing comes to what is public else", "; 1=5; 2=load 4 1; to 1 1 | 4; ret 4 | ; to 1 2", "2; ; 2; "},
	{"both ways of a branch to one block, of one value", "; 1=5; 2=load 4 1; if 1 to 1 2 to 1 2 | 3; ret 3", "2 3; 2>3; 2; "},
	{"both ways of a branch to one block, of two values", "; 1=5; 2=load 4 1; 3=load 4 1; if 1 to 1 2 to 1 3 | 4; ret 4", "2 3 4; 2>4 3>4; 2 3; "},
	{"both ways of a branch to two blocks", "; 1=5; 2=load 4 1; if 1 to 1 2 to 2 2 | 3; ret 3 | 4; ret 4", "2 3 4; 2>3 2>4; 2; "},
	{"one value for two parameters", "; 1=5; 2=load 4 1; to 1 2 1 2 | 3 4 5; ret 3", "2 3 5; 2>3 2>5; 2; "},
	{"a parameter that is secret on another way", "; 1=get 2; 2=5; 3=load 4 2; if 2 to 1 1 to 1 3 | 4; 5=load 4 4; ret 5", "3; ; 3; "},
	{"a parameter that is itself on a way", "; 1=5; 2=load 4 1; to 1 2 | 3; if 1 to 1 3 to 2 | ; ret 3", "2 3*10; 2>3 3>3; 2; "},

	{"0 loops and 1", "; 1=5; 2=load 4 1; to 1 | ; 3=load 4 1; if 1 to 1 to 2 | ; 4=load 4 1; ret 4", "2 3*10 4; ; 2 3 4; "},
	{"up to 5 loops", "; 1=5; 11=load 4 1; to 1 | ; 12=load 4 1; to 2 | ; 13=load 4 1; to 3 | ; 14=load 4 1; to 4 | ; 15=load 4 1; to 5 | ; 16=load 4 1; if 16 to 5 to 6 | ; 17=load 4 1; if 1 to 4 to 7 | ; if 1 to 3 to 8 | ; if 1 to 2 to 9 | ; 18=load 4 1; if 1 to 1 to 10 | ; ret 1",
		"11 12*10 13*100 14*1000 15*10000 16*10000 17*10000 18*10; ; 11 12 13 14 15 16 17 18; 16"},
	{"up to 7 loops, of parameters", "; 1=5; 11=load 4 1; to 1 11 | 12; to 2 12 | 13; to 3 13 | 14; to 4 14 | 15; to 5 15 | 16; to 6 16 | 17; to 7 17 | 18; if 18 to 7 18 to 8 | ; if 1 to 6 18 to 9 | ; if 1 to 5 18 to 10 | ; if 1 to 4 18 to 11 | ; if 1 to 3 18 to 12 | ; if 1 to 2 18 to 13 | ; if 1 to 1 18 to 14 | ; ret 18",
		"11 12*10 13*100 14*1000 15*10000 16*10000 17*10000 18*10000; 11>12 12>13 13>14 14>15 15>16 16>17 17>18 18>12 18>13 18>14 18>15 18>16 18>17 18>18; 11; 18"},
	{"a block to which a loop goes by no way that can be come to", "; 1=5; to 1 | ; 2=load 4 1; ret 2 | ; to 1", "2; ; 2; "},
}

func TestNets(t *testing.T) {
	for _, c := range nets {
		if got := told(net(t, program(t, c.text), 0)); got != c.want {
			t.Errorf("%s: %q, not %q", c.what, got, c.want)
		}
	}
}
