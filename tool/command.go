package tool

import (
	"strconv"
	"strings"

	"sandtable/api"
)

// greatest is the greatest number that may stand behind a command's name.
const greatest = 1 << 20

// command is what is done under a name.
type command struct {
	name     string
	numbered bool                                           // whether a number stands behind the name
	several  bool                                           // whether there may be more inputs than one
	do       func(in [][]byte, n int) ([][]byte, api.Fault) // without a number n is 0
}

// commands is all that there are.
func commands() []command {
	return []command{
		{name: "check", do: checkText},
		{name: "format", do: formatText},
		{name: "upgrade", do: upgradeText},
		{name: "compile", do: compileText},
		{name: "decompile", do: decompileBundle},
		{name: "run", numbered: true, do: runBundle},
		{name: "parts", numbered: true, do: tellParts},
		{name: "split", numbered: true, do: splitBundle},
		{name: "link", several: true, do: linkFragments},
	}
}

// find is the command that is asked for, the number behind its name, and true; false, if there is no such one.
func find(cmd string) (command, int, bool) {
	name, digits, numbered := strings.Cut(cmd, " ")
	// Where no blank stands behind the name there are no digits, and so no number.
	n, ok := number(digits)
	for _, c := range commands() {
		if c.name == name && c.numbered == numbered && ok == numbered {
			return c, n, true
		}
	}
	return command{}, 0, false
}

// number is the number that digits are, and true; false, if they are none, or it is too great.
func number(digits string) (int, bool) {
	n, e := strconv.Atoi(digits)
	// What is told in another way than it was written has a sign, or a 0 ahead of others.
	if e != nil || n < 0 || n > greatest || strconv.Itoa(n) != digits {
		return 0, false
	}
	return n, true
}
