package wire

import (
	"strconv"
	"strings"

	"porter/api"
	"porter/words"
)

// Render tells the answer to a request of this method as bytes.
func Render(method string, a api.Answer) string {
	var out strings.Builder
	out.WriteString(version + " " + strconv.Itoa(a.Status) + " " + Reason(a.Status) + "\r\n")
	for _, f := range a.Fields {
		writeField(&out, f.Name, f.Value)
	}
	writeField(&out, words.LengthName, strconv.Itoa(len(a.Body)))
	if a.Close {
		writeField(&out, words.ConnectionName, words.CloseValue)
	}
	out.WriteString("\r\n")
	if method != words.Head {
		out.WriteString(a.Body)
	}
	return out.String()
}
